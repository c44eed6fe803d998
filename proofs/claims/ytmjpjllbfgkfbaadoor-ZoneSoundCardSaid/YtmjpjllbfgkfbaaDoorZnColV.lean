/- The document's Column: a column of rows, in new memory. Nothing that was there changes. -/
import Derived.Test.YtmjpjllbfgkfbaaDoorJ1
import Derived.Test.YtmjpjllbfgkfbaaDoorJ4
import Derived.Test.YtmjpjllbfgkfbaaDoorJ5
import Derived.Test.YtmjpjllbfgkfbaaDoorJ2
import Derived.Test.YtmjpjllbfgkfbaaDoorJ6
namespace Go.Proofs.YtmjpjllbfgkfbaaDoor
open Go.RowKit
set_option linter.unusedVariables false
set_option linter.unusedSimpArgs false
set_option maxRecDepth 100000

theorem colV_snoc {rows : List (List Vl)} {k c : Nat} {r : List Vl} {v : Vl} (h : rows[k]? = some r) (hv : r[c]? = some v) : colV (rows.take (k + 1)) c = colV (rows.take k) c ++ [v] := by
  rw [List.take_add_one, h]
  simp [colV, List.getD_eq_getElem?_getD, hv]
set_option maxHeartbeats 1000000 in
theorem column_any {w : World} {A : Option Addr} {n cp ci : Nat} {rows : List (List Vl)} (hn : rows.length = n) (hr : VV w A rows) (hn2 : n ≤ 65536) (hci : ci ≤ 65536) (hl : ∀ r ∈ rows, ci < r.length ∧ r.length ≤ 65536) :
    Calls Tryd.prog 9 #[.slice A n cp, .int .i64 (ci : Int)] w fun e w' => ∃ v, e = .returned v ∧ w'.ownsRow w.heap.size 37 3 v n (vs (colV rows ci)) ∧ Below w.heap.size w w' := by
  obtain ⟨i0, hi0, hz0, hz1, hz2⟩ := info_parts info_val
  obtain ⟨us, hu, hus⟩ := hr
  rw [hn] at hu
  have HE := Lib.hid hn; have HU := Lib.hid hus; have HL := Lib.hid hl
  clear hn hus hl
  go_enter Tryd.func9, Tryd.ntmps9
  go_wp2_with fail
  go_loopw [5, 6] (fun v i wr => ∃ k : Nat, k ≤ n ∧ i = .int .i64 (k : Int) ∧ wr.ownsRow w.heap.size 37 3 v k (vs (colV (rows.take k) ci)) ∧ Below w.heap.size w wr) (fun _ i _ => n - (intOf i).toNat)
  case atStart => exact ⟨0, Nat.zero_le _, rfl, by simpa [colV, vs] using own_nil _ _ _ _, Below.refl _ _⟩
  case round =>
    obtain ⟨k, hk, rfl, hown, hb⟩ := hrel
    by_cases hlt : k < n
    · obtain ⟨r, hz⟩ : ∃ r, rows[k]? = some r := ⟨_, List.getElem?_eq_getElem (by rw [HE.out]; omega)⟩
      obtain ⟨u, hu1, A2, c2, rfl, hrr⟩ := HU.out k r hz
      obtain ⟨bb, oo, rfl, hbb, hcell⟩ := reads_plain2 hu (by omega) hu1
      have hck := (hb.cell (p := ⟨bb, oo + k, none⟩) hbb).trans (hcell k _ hu1)
      obtain ⟨hm1, hm2⟩ := HL.out r (List.mem_of_getElem? hz)
      obtain ⟨⟨v0, v1, z⟩, hv⟩ : ∃ v, r[ci]? = some v := ⟨_, List.getElem?_eq_getElem hm1⟩
      obtain ⟨b', o', rfl, hb0', x0, x1, x2⟩ := (hrr.below hb).val hv
      have HS := Lib.hid (colV_snoc hz hv)
      obtain ⟨m, hmm⟩ : ∃ m, r.length = m := ⟨_, rfl⟩
      rw [hmm] at hm1 hm2 hck
      have hsz := hb.size
      clear hz hu1 hcell hmm hv hrr hu
      obtain ⟨L, hL⟩ : ∃ L, colV (rows.take k) ci = L := ⟨_, rfl⟩
      rw [hL] at hown HS
      clear hL
      go_wp2_with (at_builtin
                   refine wpList_append_any _ rfl (.tmp 13) (.tmp 21) _ rfl w.heap.size 37 i0 _ 3 32 Tryd.underlying23 hi0 hz0 hz1 hz2 rfl (by omega) u5 k (vs L) rfl
                     (hown.alloc _) (wr.heap.size + 1) (some ⟨wr.heap.size, 0, none⟩) 1 1 (vc (v0, v1, z)) rfl (reads3 wr _ _ _ _) (vc_cell _) (by unfold maxLen; omega) (by omega) (by simp; omega) ?_
                   intro v3 w3 hown3 hg3 hat3)
      go_round
      case rel =>
        refine ⟨k + 1, by omega, by go_num, ?_, below_app hb hown hsz hg3⟩
        rw [HS.out, vs_append, vs_one]
        exact hown3
      case measure => simp [intOf]; omega
    · obtain rfl : k = n := by omega
      have HB := Lib.hid hb
      rw [List.take_of_length_le (by rw [HE.out]; exact Nat.le_refl _)] at hown
      have HO := Lib.hid hown
      clear hown hb hu
      go_wp2_with fail
      go_ret
      exact ⟨_, rfl, HO.out, HB.out⟩
end Go.Proofs.YtmjpjllbfgkfbaaDoor
