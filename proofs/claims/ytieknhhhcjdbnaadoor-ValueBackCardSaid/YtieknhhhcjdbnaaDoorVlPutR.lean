/- Contract of package value's PutRows: rows' form behind bytes, in new memory. -/
import Derived.Test.YtieknhhhcjdbnaaDoorVlRwF
import Derived.Test.YtieknhhhcjdbnaaDoorJ22
import Derived.Test.YtieknhhhcjdbnaaDoorJ30
import Derived.Test.YtieknhhhcjdbnaaDoorVlPutF
namespace Go.Proofs.YtieknhhhcjdbnaaDoor
open Go.RowKit
set_option linter.unusedVariables false
set_option linter.unusedSimpArgs false
set_option maxRecDepth 100000

set_option maxHeartbeats 1000000 in
theorem putR_any (B0 : Option Addr) (n0 c0 : Nat) (l : List Nat) (A : Option Addr) (c : Nat) (rows : List (List Vl)) (w : World) (hl : Reads w w.heap.size 1 B0 n0 (bs l)) (hl0 : n0 ≤ 1000000000) (hr : VV w A rows) (ht : Tame rows) (hi : ∀ r ∈ rows, ∀ v ∈ r, In64 v.2.1) :
    Calls Tryd.prog 19 #[.slice B0 n0 c0, .slice A rows.length c] w (New w (bs (l ++ rwB rows)) (l ++ rwB rows).length) := by
  obtain ⟨i0, hi0, hz0, hz1, hz2⟩ := info_parts info_u8
  have hF := rwF_le ht
  have hn := ht.1
  obtain ⟨n, e1⟩ : ∃ n, rows.length = n := ⟨_, rfl⟩
  rw [rwF_all, e1]
  rw [e1] at hn
  have hl1 : l.length = n0 := by have := hl.1; rw [bs_length] at this; omega
  obtain ⟨F, hFd⟩ : ∃ F : List (List Vl) → List Nat, F = fun q => l ++ rwF n q := ⟨_, rfl⟩
  have hF0 : F [] = l ++ vb n := by rw [hFd]; simp [rwF]
  have hFs : ∀ q r, F (q ++ [r]) = F q ++ rowB r := fun q r => by rw [hFd]; simp only; rw [rwF_snoc, List.append_assoc]
  have hFl : ∀ k, (F (rows.take k)).length ≤ 71011000010 := fun k => by rw [hFd]; simp only; rw [List.length_append, hl1]; have := hF n k; omega
  rw [show l ++ rwF n rows = F rows by rw [hFd]]
  have hnw : IntKind.u64.wrap (n : Int) = (n : Int) := IntWalk.u64_in _ (by omega)
  obtain ⟨us, hu, hus⟩ := hr
  rw [e1] at hu
  have HE := Lib.hid e1
  have HT := Lib.hid ht
  have HI := Lib.hid hi
  have HU := Lib.hid hus
  have HF := Lib.hid hFl
  have HF0 := Lib.hid hF0
  have HFS := Lib.hid hFs
  have HL1 := Lib.hid hl1
  have HPV := Lib.hid (putVar_any B0 n0 c0 n (bs l) w (by omega) hl (bs_one _) (by omega))
  clear e1 ht hi hus hF hFd hF0 hFs hFl hl1 hl
  go_enter Tryd.func19, Tryd.ntmps19
  go_wp2_with fail
  refine HPV.out.mono ?_
  rintro e w1 ⟨v1, rfl, hown1, hb1⟩
  go_wp2_with fail
  go_loopw [5, 6, 7, 15] (fun b _ _ i wr => ∃ k : Nat, k ≤ n ∧ i = .int .i64 (k : Int) ∧ wr.ownsRow w.heap.size 5 1 b (F (rows.take k)).length (bs (F (rows.take k))) ∧ Below w.heap.size w wr) (fun _ _ _ i _ => n - (intOf i).toNat)
  case atStart => exact ⟨0, Nat.zero_le _, rfl, by rw [List.take_zero, HF0.out, List.length_append, HL1.out, bs_append]; exact hown1, hb1⟩
  case round =>
    clear hown1 hb1 HPV
    obtain ⟨k, hk, rfl, hown, hb⟩ := hrel
    by_cases hlt : k < n
    · obtain ⟨r, hz⟩ : ∃ r, rows[k]? = some r := ⟨_, List.getElem?_eq_getElem (by rw [HE.out]; omega)⟩
      obtain ⟨u, hu1, A2, c2, rfl, hrr⟩ := HU.out k r hz
      obtain ⟨bb, oo, rfl, hbb, hcell⟩ := reads_plain2 hu (by omega) hu1
      have hck := hcell k _ hu1
      have HM := Lib.hid (HT.out.2 r (List.mem_of_getElem? hz))
      have HIR := Lib.hid (HI.out r (List.mem_of_getElem? hz))
      have HS := Lib.hid (show F (rows.take (k + 1)) = F (rows.take k) ++ rowB r by rw [take_snoc hz, HFS.out])
      have hm := HM.out.1
      obtain ⟨m, hmm⟩ : ∃ m, r.length = m := ⟨_, rfl⟩
      rw [hmm] at hrr hm hck
      have HMM := Lib.hid hmm
      clear hz hu1 hcell hmm
      have hcb : ∀ W : World, Below w.heap.size w W → W.cell? ⟨bb, oo + k, none⟩ = some (.slice A2 m c2) := fun W h => (h.cell (p := ⟨bb, oo + k, none⟩) hbb).trans hck
      have HCB := Lib.hid hcb
      clear hck hcb
      have ck := HCB.out wr hb
      have hwl := HF.out k
      have HRR := Lib.hid hrr
      go_wp2_with fail
      go_loopw [5, 7, 23] (fun b _ j wq => ∃ t : Nat, t ≤ m ∧ j = .int .i64 (t : Int) ∧ wq.ownsRow w.heap.size 5 1 b (F (rows.take k) ++ rowB (r.take t)).length (bs (F (rows.take k) ++ rowB (r.take t))) ∧ Below w.heap.size w wq) (fun _ _ j _ => m - (intOf j).toNat)
      case atStart => exact ⟨0, Nat.zero_le _, rfl, by simpa [rowB] using hown, hb⟩
      case round =>
        clear hown hb ck
        obtain ⟨t, htm, rfl, hown, hb⟩ := hrel
        have ck := HCB.out _ hb
        by_cases hlt2 : t < m
        · obtain ⟨⟨v0, v1, z⟩, hv⟩ : ∃ v, r[t]? = some v := ⟨_, List.getElem?_eq_getElem (by rw [HMM.out]; omega)⟩
          obtain ⟨b', o', rfl, hb0', x0, x1, x2⟩ := (HRR.out.below hb).val hv
          have hvm := List.mem_of_getElem? hv
          have hi1 : In64 v1 := HIR.out _ hvm
          have hzl : z.length ≤ 70000 := HM.out.2 _ hvm
          have hvl := vB_le (v := (v0, v1, z)) hzl
          have hrl : (rowB (r.take t)).length ≤ 70011000 := by
            have := rowB_le (r := r.take t) fun u hu => HM.out.2 u (List.mem_of_mem_take hu)
            have : (r.take t).length ≤ 1000 := by rw [List.length_take]; omega
            omega
          have hp := fun W => form_any (v0, v1, z) W hi1 (by show z.length ≤ _; omega)
          rw [show vW (v0, v1, z) = .agg #[.int .i64 v0, .int .i64 v1, .string ⟨z.toArray⟩] from rfl] at hp
          have HP := Lib.hid hp
          have HS2 := Lib.hid (show rowB (r.take (t + 1)) = rowB (r.take t) ++ vB (v0, v1, z) by rw [take_snoc hv, rowB_append, rowB_one])
          have hsz := hb.size
          clear hv hvm hp
          go_wp2_with fail
          refine (HP.out _).mono ?_
          intro e2 w2 hN2
          obtain ⟨A3, c3, rfl, _, hr2, hb2⟩ := hN2.opened
          clear hN2
          have hown2 := own_below hown hb2
          have hb02 := hb.trans (hb2.mono hb.size)
          go_wp2_with (at_builtin
                       refine wpList_append_any _ rfl (.tmp 26) (.tmp 34) _ rfl w.heap.size 5 i0 _ 1 1 Tryd.underlying22 hi0 hz0 hz1 hz2 rfl (by omega) u5 (F (rows.take k) ++ rowB (r.take t)).length (bs (F (rows.take k) ++ rowB (r.take t))) rfl
                         hown2 w2.heap.size A3 (vB (v0, v1, z)).length c3 (bs (vB (v0, v1, z))) rfl hr2 (bs_one _) (by rw [List.length_append]; unfold maxLen; omega) (by rw [List.length_append]; omega) hb02.size ?_
                       intro v3 w3 hown3 hg3 hat3)
          go_round
          case rel =>
            refine ⟨t + 1, by omega, by go_num, ?_, hb02.grown hg3 hb02.size (fun j hj => (hown2.lt j hj).1)⟩
            rw [HS2.out, ← List.append_assoc, @List.length_append _ (F (rows.take k) ++ rowB (r.take t)) (vB (v0, v1, z)), bs_append (_ ++ _)]
            exact hown3
          case measure => simp [intOf]; omega
        · obtain rfl : t = m := by omega
          go_wp2_with fail
          go_round
          case rel =>
            refine ⟨k + 1, by omega, by go_num, ?_, hb⟩
            rw [show r.take t = r from List.take_of_length_le (by rw [HMM.out]; exact Nat.le_refl _), ← HS.out] at hown
            exact hown
          case measure => simp [intOf]; omega
    · obtain rfl : k = n := by omega
      go_wp2_with fail
      go_ret
      rw [List.take_of_length_le (by rw [HE.out]; exact Nat.le_refl _)] at hown
      exact ⟨_, rfl, hown, hb⟩
end Go.Proofs.YtieknhhhcjdbnaaDoor
