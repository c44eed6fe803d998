/- Contracts of math/bits.TrailingZeros8 and of package bitmap's All. -/
import Derived.Deep.LoopGhost
import Derived.Test.YtgfpemndbgdhdaaIntRow
import Derived.Test.YtgfpemndbgdhdaaBmRank
namespace Go.Proofs.Ytgfpemndbgdhdaa
open Go.RowKit
set_option linter.unusedVariables false
set_option linter.unusedSimpArgs false
set_option maxRecDepth 100000

theorem size_ntz8tab : Lib.ntz8tab.size = 256 := by decide +kernel
theorem ntz8tab_fin : ∀ x : Fin 256, (Lib.ntz8tab[x.val]'(by rw [size_ntz8tab]; exact x.isLt)).toNat = tz x.val := by decide +kernel
theorem tz_le_fin : ∀ x : Fin 256, tz x.val ≤ 8 := by decide +kernel
theorem ntz8tab_at (x : Nat) (hx : x < Lib.ntz8tab.size) : wrap64 ((Lib.ntz8tab[x]'hx).toNat : Int) = (tz x : Int) := by
  have h := ntz8tab_fin ⟨x, by rwa [size_ntz8tab] at hx⟩
  have := tz_le_fin ⟨x, by rwa [size_ntz8tab] at hx⟩
  simp only at h this
  rw [h]
  unfold wrap64
  omega
theorem trail_any (x : Nat) (w : World) (h : x < 256) : Calls Try.prog 25 #[.int .u8 (x : Int)] w fun e w' => e = .returned (.int .i64 (tz x : Int)) ∧ w = w' := by
  have hs := size_ntz8tab
  go_enter Try.func25, Try.ntmps25
  go_wp2_with fail
  go_ret
  exact ⟨ret_of (congrArg (Value.int IntKind.i64) (ntz8tab_at x _)), rfl⟩
theorem All_nil (w : World) : Calls Try.prog 20 #[.pointer none] w fun e w' => e = .returned (.slice none 0 0) ∧ w = w' := by
  go_enter Try.func20, Try.ntmps20
  go_wp2_with fail
  go_ret
  exact ⟨rfl, rfl⟩
theorem ns_snoc (l : List Nat) (b : Nat) (z : Int) (h : z = (b : Int)) : ns l ++ [Value.int .i64 z] = ns (l ++ [b]) := by subst h; simp [ns]
theorem low_bit (x : Nat) (h : x < 256) (h0 : x ≠ 0) : bits .and .u8 (x : Int) ((x : Int) - 1) = ((x &&& (x - 1) : Nat) : Int) := by
  rw [show (x : Int) - 1 = ((x - 1 : Nat) : Int) by omega, u8_and_nat _ _ h (by omega)]
section
variable {w : World} {B g h n : Nat} {l : List Nat}
/-- Between two rounds: the row has the marked places of the bytes before. -/
def AllAt (w wr : World) (D : List Nat) (v : Value) : Prop := wr.ownsRow w.heap.size 3 1 v D.length (ns D) ∧ Below w.heap.size w wr
set_option maxHeartbeats 1000000 in
theorem All_any (s : SetIn w B g h n l) : Calls Try.prog 20 #[.pointer (some ⟨g, 0, none⟩)] w (NewI w (sel (bit l) n)) := by
  obtain ⟨c0, c1⟩ := s.cells
  obtain ⟨i0, hi0, hz0, hz1, hz2⟩ := info_parts info_int
  have hl := s.size.2
  have hgl := s.obj.lt
  have hcn : cnt (bit l) n ≤ 65536 := by have := cnt_le (bit l) n; have := s.le; omega
  have hmk : ∀ w, (Instr.makeSlice 22 (.int .i64 0) (.int .i64 (cnt (bit l) n : Int))).run Try.prog w = _ := run_make_int 0 (cnt (bit l) n) (by omega) (by omega)
  have hend : sel (bit l) (8 * l.length) = sel (bit l) n := sel_over s.ok.left _ (by have := s.size.1; unfold siz at this; omega)
  have HE := Lib.hid hend
  have hbd : ∀ t, t ≤ l.length → (sel (bit l) (8 * t)).length ≤ 65536 := fun t ht => by rw [sel_length]; have := cnt_le (bit l) (8 * t); omega
  have HB := Lib.hid hbd
  clear hend hbd
  go_enter Try.func20, Try.ntmps20
  go_wp2_with fail
  refine (Count_any s).mono ?_
  rintro e w' ⟨rfl, rfl⟩
  go_wp2_with fail
  go_loopg [3, 4, 5, 16] l.length (fun gk s3 s4 s5 s16 wr => ∃ t : Nat, t + gk = l.length ∧ s16 = .int .i64 (t : Int) ∧ ∃ D, Hid (D = sel (bit l) (8 * t)) ∧ AllAt w wr D s3)
  case atStart => exact ⟨0, by omega, rfl, [], Lib.hid rfl, World.ownsRow_made w _ _ (Nat.le_refl _) (by unfold maxLen; omega) (by simp [size_madeCells]), (Below.refl _ _).alloc (Nat.le_refl _) _⟩
  case round =>
    obtain ⟨t, htg, rfl, D, hD, hown, hb⟩ := hrel
    cases gk with
    | zero =>
      obtain rfl : t = l.length := by omega
      go_wp2_with fail
      go_ret
      have h1 := hD.out
      rw [HE.out] at h1
      subst h1
      exact ⟨_, rfl, hown, hb⟩
    | succ g1 =>
      have hlt : t < l.length := by omega
      have cb := (s.below hb (Nat.le_refl _)).byte hlt
      have hx := getD_byte s.ok.byte t
      have hst := sel_step l t
      rw [← hD.out] at hst
      obtain ⟨x, hx0⟩ : ∃ x, x = l.getD t 0 := ⟨_, rfl⟩
      rw [← hx0] at cb hx hst
      have HS := Lib.hid hst
      clear hx0 hst
      go_wp2_with fail
      go_loopg [3, 5] x (fun gk s3 s5 wx => ∃ y : Nat, y = gk ∧ y < 256 ∧ s5 = .int .u8 (y : Int) ∧ ∃ E, Hid (E ++ (bts y).map (8 * t + ·) = sel (bit l) (8 * (t + 1))) ∧ AllAt w wx E s3)
      case atStart => exact ⟨x, rfl, hx, rfl, D, Lib.hid HS.out.symm, hown, hb⟩
      case round =>
        clear hown hb cb
        obtain ⟨y, rfl, hy, rfl, E, hE, hown, hb⟩ := hrel
        by_cases hy0 : y = 0
        · subst hy0
          go_wp2_with fail
          go_roundg g1
          case measure => omega
          case rel =>
            have h1 := hE.out
            rw [bts_zero, List.map_nil, List.append_nil] at h1
            exact ⟨t + 1, by omega, by go_num, E, Lib.hid h1, hown, hb⟩
        · have hne : ((y : Int) != 0) = true := by simp; omega
          have hne' : ((y : Int) == 0) = false := by simp; omega
          obtain ⟨hn1, hn2, hn3⟩ := bts_next hy hy0
          have HN := Lib.hid hn1
          have hlow := low_bit y hy hy0
          obtain ⟨y2, hy2⟩ : ∃ y2, y2 = y &&& (y - 1) := ⟨_, rfl⟩
          rw [← hy2] at hlow hn3
          have HY := Lib.hid hy2
          have hElen : E.length ≤ 65536 := by
            have h1 := congrArg List.length hE.out
            have h2 := HB.out (t + 1) hlt
            rw [List.length_append] at h1
            omega
          have hzw := hb.size
          clear hn1 hy2
          go_wp2_with fail
          refine (trail_any y _ hy).mono ?_
          rintro e w' ⟨rfl, rfl⟩
          go_wp2_with (at_builtin
                       refine wpList_append_any _ rfl (.tmp 27) (.tmp 33) _ rfl w.heap.size 3 i0 _ 1 8 Try.underlying22 hi0 hz0 hz1 hz2 rfl (by omega) u3 E.length (ns E) rfl
                         (hown.alloc _) (wr.heap.size + 1) (some ⟨wr.heap.size, 0, none⟩) 1 1 [.int .i64 ((t : Int) * 8 + (tz y : Int))] rfl (Reads.new wr _ _) (one_int _ _) (by unfold maxLen; omega) (by omega) (by simp; omega) ?_
                       intro v2 w2 hown2 hg2 hat2)
          rw [ns_snoc E (8 * t + tz y) _ (by push_cast; omega)] at hown2
          have hE2 : E ++ [8 * t + tz y] ++ (bts y2).map (8 * t + ·) = sel (bit l) (8 * (t + 1)) := by
            rw [← hE.out, HN.out, HY.out]; simp
          have HE2 := Lib.hid hE2
          clear hE2
          go_roundg y2
          case measure => omega
          case rel => exact ⟨y2, rfl, by omega, by go_num, E ++ [8 * t + tz y], HE2, by simpa using hown2, below_app hb hown hzw hg2⟩
end
end Go.Proofs.Ytgfpemndbgdhdaa
