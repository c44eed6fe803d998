/- Contracts of package sha's Hex and the document's: a digest's text. -/
import Derived.Test.YtbejglmmcmcleaaDoorWhole
import Derived.Test.YtbejglmmcmcleaaDoorMem
import Derived.Test.YtbejglmmcmcleaaDoorShaPlain
import Derived.Deep.LoopGhost
import Derived.Laws.BitsAllLaws
import Derived.Laws.IdiomStrings
import Derived.StillTailTactics
import Derived.Deep.RegionLaw
namespace Go.Proofs.YtbejglmmcmcleaaDoor
open Go.RowKit
set_option linter.unusedVariables false
set_option maxRecDepth 100000

/-- Bytes as a text. -/
def tx (l : List Nat) : ByteArray := ⟨(l.map UInt8.ofNat).toArray⟩
theorem text_of {w : World} {B n : Nat} {A : Option Addr} {l : List Nat} (hr : Reads w B 1 A n (bs l)) (c : Nat) (hn : 0 < n) (hl : ∀ b ∈ l, b < 256) : (convert 22 9 (.slice A n c)).run Tryd.prog w = .ok (.string (tx l)) w := by
  obtain ⟨ad, rfl, _, hc⟩ := hr.2 hn
  have hlen : l.length = n := by have := hr.1; rw [bs_length] at this; omega
  have h := run_convert_bytes_back (P := Tryd.prog) w 22 9 5 ad c (l.map UInt8.ofNat) Tryd.underlying22 Tryd.underlying5 Tryd.underlying9 (fun j hj => by
    have hj' : j < l.length := by simpa using hj
    rw [hc j (.int .u8 (l[j] : Int)) (by unfold bs; rw [List.getElem?_map, List.getElem?_eq_getElem hj']; rfl)]
    rw [List.getElem_map]
    have := hl _ (List.getElem_mem hj')
    rw [UInt8.toNat_ofNat_of_lt' (by simpa using this)])
  rw [List.length_map, hlen] at h
  exact h
theorem hexN_byte {l : List Nat} (h : ∀ b ∈ l, b < 256) : ∀ b ∈ hexN l, b < 256 := by
  intro x hx
  unfold hexN at hx
  obtain ⟨b, hb, hx⟩ := List.mem_flatMap.1 hx
  have := h b hb
  simp only [List.mem_cons, List.not_mem_nil, or_false] at hx
  rcases hx with rfl | rfl
  · have := @hexD_lt (b / 16) (by omega); omega
  · have := @hexD_lt (b % 16) (by omega); omega
theorem info_hash : (Tryd.prog.info? 24).map (fun i => (i.zero, i.size)) = some (some (.agg (Array.replicate 32 (.int .u8 0))), 32) := by kernel_rfl
theorem agg_u8 (W : World) : (isAgg 5).run Tryd.prog W = .ok false W := by simp [isAgg, run_underlying Tryd.underlying5]
theorem size_u8 (W : World) : (Go.sizeOf 5).run Tryd.prog W = .ok 1 W := by
  obtain ⟨i0, hi0, hz0, hz1, hz2⟩ := info_parts info_u8
  simp [Go.sizeOf, typeInfo, hi0, hz1]
theorem reads_two (w : World) (t : TypeId) (u v : Value) : Reads (w.alloc (.cells #[u, v] t)) (w.heap.size + 1) 1 (some ⟨w.heap.size, 0, none⟩) 2 [u, v] := reads_blk (Blk.new w _ _) _ _ _ (by omega) rfl rfl
def DIG : ByteArray := ⟨#[48, 49, 50, 51, 52, 53, 54, 55, 56, 57, 97, 98, 99, 100, 101, 102]⟩
theorem dig_at (n : Nat) (z : Int) (hz : z = (n : Int)) (hn : n < 16) (h : z.toNat < ByteArray.size ⟨#[48, 49, 50, 51, 52, 53, 54, 55, 56, 57, 97, 98, 99, 100, 101, 102]⟩) :
    ((⟨#[48, 49, 50, 51, 52, 53, 54, 55, 56, 57, 97, 98, 99, 100, 101, 102]⟩ : ByteArray)[z.toNat]'h).toNat = hexD n := by
  subst hz
  have hall : ∀ n : Fin 16, (DIG[n.val]?).map (·.toNat) = some (hexD n.val) := by decide +kernel
  have hx := hall ⟨n, hn⟩
  simp only at hx
  have hq : DIG[n]? = some ((⟨#[48, 49, 50, 51, 52, 53, 54, 55, 56, 57, 97, 98, 99, 100, 101, 102]⟩ : ByteArray)[(n : Int).toNat]'h) := by
    rw [← ByteArray.getElem?_lt' _ _ h]
    rfl
  rw [hq] at hx
  simpa using hx
theorem digit_at : ∀ n, n < 16 → (#[48, 49, 50, 51, 52, 53, 54, 55, 56, 57, 97, 98, 99, 100, 101, 102] : Array UInt8)[n]? = some (UInt8.ofNat (hexD n)) := by decide +kernel
set_option maxHeartbeats 1000000 in
theorem hex_any (l : List Nat) (w : World) (h32 : l.length = 32) (hl : ∀ b ∈ l, b < 256) :
    Calls Tryd.prog 11 #[.agg (bs l).toArray] w fun e w' => e = .returned (.string (tx (hexN l))) ∧ Below w.heap.size w w' := by
  have hsz := Lib.hid (zero_of_info info_hash).2
  have hmk : ∀ W : World, (Instr.makeSlice 22 (.int .i64 0) (.int .i64 64)).run Tryd.prog W = .ok (.slice (some ⟨W.heap.size, 0, none⟩) 0 64) (W.alloc (.cells (madeCells #[.int .u8 0] 64) 5)) := fun W => run_make_u8 64 (by omega) W
  obtain ⟨i0, hi0, hz0, hz1, hz2⟩ := info_parts info_u8
  have hsize : (bs l).toArray.size = 32 := by simp [bs_length, h32]
  have H32 := Lib.hid h32; clear h32
  have HL := Lib.hid hl; clear hl
  have HB := Lib.hid (Blk.new w 24 (bs l).toArray)
  have HSZ := Lib.hid hsize; clear hsize
  obtain ⟨V, hV⟩ : ∃ V : Array Value, V = (bs l).toArray := ⟨_, rfl⟩
  have hVi : ∀ i b : Nat, l[i]? = some b → V[i]? = some (.int .u8 (b : Int)) := by
    intro i b hb
    rw [hV, List.getElem?_toArray]
    unfold bs
    rw [List.getElem?_map, hb]
    rfl
  rw [← hV]
  rw [← hV] at HB HSZ
  have HVI := Lib.hid hVi
  clear hV hVi
  go_enter Tryd.func11, Tryd.ntmps11
  go_wp2_with (refine wpList_load_row (by rfl) (.tmp 1) (by rfl) (by rfl) (HB.out.alloc _) Tryd.underlying24 (by rw [HSZ.out]; exact hsz.out) ?_)
  have hown0 : ((w.alloc (.cells V 24)).alloc (.cells (madeCells #[.int .u8 0] 64) 5)).ownsRow w.heap.size 5 1 (.slice (some ⟨w.heap.size + 1, 0, none⟩) 0 64) 0 [] := by
    have := World.ownsRow_made (base := w.heap.size) (e := 5) (size := 1) (w.alloc (.cells V 24)) (madeCells #[.int .u8 0] 64) 64 (by simp) (by unfold maxLen; omega) (by rw [size_madeCells])
    simpa using this
  have hb0 : Below w.heap.size w ((w.alloc (.cells V 24)).alloc (.cells (madeCells #[.int .u8 0] 64) 5)) := ((Below.refl _ _).alloc (Nat.le_refl _) _).alloc (by simp) _
  have HO := Lib.hid hown0; have HB0 := Lib.hid hb0
  clear hown0 hb0 hmk
  go_loopg [3, 8] 32 (fun g z3 s8 wr => ∃ i : Nat, i + g = 32 ∧ s8 = .int .i64 (i : Int) ∧ Hid (wr.ownsRow w.heap.size 5 1 z3 (2 * i) (bs (hexN (l.take i)))) ∧ Hid (Below w.heap.size w wr))
  case atStart => exact ⟨0, by omega, rfl, Lib.hid (by simpa [hexN, bs] using HO.out), HB0⟩
  case round =>
    obtain ⟨i, hig, rfl, hown, hb⟩ := hrel
    cases gk with
    | zero =>
      obtain rfl : i = 32 := by omega
      clear hig
      obtain ⟨Av, cv, rfl, _, _, hrv⟩ := own_slice hown.out
      have htx := text_of hrv cv (by omega) (hexN_byte (fun b hb => HL.out b (List.mem_of_mem_take hb)))
      rw [List.take_of_length_le (by rw [H32.out]; exact Nat.le_refl _)] at htx
      rw [show (2 * 32 : Nat) = 64 from rfl] at htx ⊢
      go_wp2_with fail
      go_ret
      exact ⟨rfl, hb.out⟩
    | succ g =>
      have hi : i < 32 := by omega
      obtain ⟨Av, cv, rfl, _⟩ := own_slice hown.out
      have hi2 : (i : Int) < 32 := by omega
      obtain ⟨b, hb1⟩ : ∃ b, l[i]? = some b := ⟨_, List.getElem?_eq_getElem (by rw [H32.out]; exact hi)⟩
      have hb256 := HL.out b (List.mem_of_getElem? hb1)
      have hv := HVI.out i b hb1
      have HB1 := Lib.hid hb1; clear hb1
      have hand : bits .and .u8 (b : Int) 15 = ((b % 16 : Nat) : Int) := by rw [← nat_mask4]; exact u8_and_nat b 15 hb256 (by omega)
      have hix := run_index_row (P := Tryd.prog) (t := 24) (cs := V) Tryd.underlying24 agg_u8 size_u8 hi hv
      obtain ⟨y, hy⟩ : ∃ y, b % 16 = y := ⟨_, rfl⟩
      rw [hy] at hand
      have hy16 : y < 16 := by omega
      have hd1 := dig_at (b / 16) ((b : Int) / 16) (by omega) (by omega)
      have hd2 : ∀ h, ((⟨#[48, 49, 50, 51, 52, 53, 54, 55, 56, 57, 97, 98, 99, 100, 101, 102]⟩ : ByteArray)[y]'h).toNat = hexD y := dig_at y (y : Int) rfl hy16
      obtain ⟨dd1, hdd1⟩ : ∃ y, hexD (b / 16) = y := ⟨_, rfl⟩
      obtain ⟨dd2, hdd2⟩ : ∃ z, hexD y = z := ⟨_, rfl⟩
      rw [hdd1] at hd1
      rw [hdd2] at hd2
      have hb1 : (0 : Int) ≤ (b : Int) / 16 := by omega
      have hb2 : (b : Int) / 16 < 16 := by omega
      have hb3 : (y : Int) < 16 := by omega
      have HY := Lib.hid (And.intro hy (And.intro hdd1 hdd2))
      clear hy hdd1 hdd2 hv
      have HO1 := Lib.hid ((show wr.drew.ownsRow _ _ _ _ _ _ from hown.out).alloc (.cells #[.int .u8 (dd1 : Int), .int .u8 (dd2 : Int)] 5))
      have HRN := Lib.hid (reads_two wr.drew 5 (.int .u8 (dd1 : Int)) (.int .u8 (dd2 : Int)))
      have HON := Lib.hid (show ∀ u ∈ [Value.int .u8 (dd1 : Int), Value.int .u8 (dd2 : Int)], u.oneCell' = true by intro u hu; simp at hu; rcases hu with rfl | rfl <;> rfl)
      have HSZ2 := Lib.hid (show w.heap.size ≤ (wr.drew.alloc (.cells #[.int .u8 (dd1 : Int), .int .u8 (dd2 : Int)] 5)).heap.size by have := hb.out.size; simp; omega)
      have hlt : 2 * i + 2 ≤ 64 := by omega
      go_wp2_with fail
      go_region_law (first
        | (refine step_append_any _ rfl (.tmp 11) (.tmp 18) _ rfl w.heap.size 5 i0 _ 1 1 Tryd.underlying22 hi0 hz0 hz1 hz2 rfl (by omega) (.slice Av (2 * i) cv) (2 * i) (bs (hexN (l.take i))) (by simp [Act.eval, Act.put])
             (by exact HO1.out) (wr.heap.size + 1) (some ⟨wr.heap.size, 0, none⟩) 2 2 [.int .u8 (dd1 : Int), .int .u8 (dd2 : Int)] (by simp [Act.eval, Act.put]) (by exact HRN.out) HON.out (by unfold maxLen; omega) (by omega) (by exact HSZ2.out) ?_
           intro v3 w3 hown3 hg3 hat3))
      all_goals
        go_wp2_with fail
        go_roundg g
        case measure => omega
        case rel =>
          refine ⟨i + 1, by omega, by go_num, Lib.hid ?_, Lib.hid ?_⟩
          · have e : hexN (l.take (i + 1)) = hexN (l.take i) ++ [dd1, dd2] := by
              rw [List.take_add_one, HB1.out, ← HY.out.2.2, ← HY.out.2.1, ← HY.out.1]
              exact hexN_snoc _ _
            rw [e, bs_append, show 2 * (i + 1) = 2 * i + 2 by omega]
            exact hown3
          · exact (Below.trans hb.out (Below.mono (((Below.refl wr.heap.size wr).alloc (Nat.le_refl _) _).drew) hb.out.size)).grown hg3 (HSZ2.out) (fun k hk => (HO1.out.lt k hk).1)
end Go.Proofs.YtbejglmmcmcleaaDoor
