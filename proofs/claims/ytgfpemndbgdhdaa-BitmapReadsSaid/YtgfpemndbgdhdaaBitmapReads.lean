/- The walk of the statement BitmapReads: any bytes are the set of so many places that the document says, or none. -/
import Derived.Test.YtgfpemndbgdhdaaBmRefRd
import Derived.Test.YtgfpemndbgdhdaaBmAwake
import Derived.Test.YtgfpemndbgdhdaaByteRow
namespace Go.Proofs.Ytgfpemndbgdhdaa
open Go.RowKit
set_option linter.unusedVariables false
set_option linter.unusedSimpArgs false
set_option maxRecDepth 100000

/-- A store into an own row of bytes. -/
theorem own_set {w : World} {base g n cap i : Nat} {t : TypeId} {l : List Nat} (h : w.ownsRow base t 1 (.slice (some ⟨g, 0, none⟩) n cap) n (bs l)) (hi : i < n) (y : Nat) :
    (w.setCell ⟨g, i, none⟩ (.int .u8 (y : Int))).ownsRow base t 1 (.slice (some ⟨g, 0, none⟩) n cap) n (bs (l.set i y)) := by
  have hl : l.length = n := by have := h.1; rw [bs_length] at this; omega
  refine ⟨by rw [bs_length, List.length_set]; omega, ?_⟩
  rcases h.2 with ⟨h0, _⟩ | ⟨g', cap', cur, hv, h1, hg, h2, h3, h4, h5⟩
  · cases h0
  · injection hv with a1 a2 a3
    injection a1 with a1
    injection a1 with a1
    subst a1 a3
    refine .inr ⟨g, cap, cur.setIfInBounds i (.int .u8 (y : Int)), rfl, h1, Blk.set_ (t := t) hg i _, h2, h3, by simpa using h4, ?_⟩
    have := take_set cur n i l y (by simpa using h5) hl hi
    simpa using this
theorem own_g {w : World} {base n : Nat} {t : TypeId} {v : Value} {l : List Nat} (h : w.ownsRow base t 1 v n (bs l)) (hi : 0 < n) : ∃ g cap, v = .slice (some ⟨g, 0, none⟩) n cap ∧ base ≤ g ∧
    (∀ i, i < n → w.cell? ⟨g, i, none⟩ = some (.int .u8 ((l.getD i 0 : Nat) : Int))) ∧ ∀ i, w.frozen? ⟨g, i, none⟩ = false := by
  obtain ⟨g, cap, cur, rfl, h1, h2, h3, h4⟩ := own_blk h hi
  have hl : l.length = n := by have := h.1; rw [bs_length] at this; omega
  refine ⟨g, cap, rfl, h1, fun i hi => ?_, h3.frozen⟩
  rw [h3.cell]
  refine cell_take cur n i l _ h4 hi ?_
  rw [List.getD_eq_getElem?_getD, List.getElem?_eq_getElem (by omega)]
  rfl
theorem reads_else (A : Option Addr) (nb cb : Nat) (n : Int) (w : World) (h : 500 < nb) :
    Calls Try.prog 4 #[.slice A nb cb, .int .i64 n] w fun e w' => e = .returned (.bool true) ∧ Below w.heap.size w w' := by
  go_enter Try.func4, Try.ntmps4
  go_wp2_with fail
  refine (awake_any w).mono ?_
  rintro e w1 ⟨rfl, hb⟩
  go_wp2_with fail
  go_ret
  exact ⟨rfl, hb⟩
/-- What stands while the copy is turned: the copy, somehow; nothing that was there changes. -/
def Turned (w wr : World) (v : Value) (nb : Nat) : Prop := ∃ l, wr.ownsRow w.heap.size 5 1 v nb (bs l) ∧ (∀ x ∈ l, x < 256) ∧ Below w.heap.size w wr
set_option maxHeartbeats 2000000 in
theorem reads_no (A : Option Addr) (nb cb : Nat) (n : Int) (lb : List Nat) (w : World) (hr : Reads w w.heap.size 1 A nb (bs lb)) (hlb : ∀ x ∈ lb, x < 256) (h : nb ≤ 500) (hE : rdE lb n ≠ 0) :
    Calls Try.prog 4 #[.slice A nb cb, .int .i64 n] w fun e w' => e = .returned (.bool true) ∧ Below w.heap.size w w' := by
  have d1 : decide ((500 : Int) < (nb : Int)) = false := by simp; omega
  obtain ⟨i0, hi0, hz0, hz1, hz2⟩ := info_parts info_u8
  have hown0 : (w.alloc (.cells #[] 5)).ownsRow w.heap.size 5 1 (.slice (some ⟨w.heap.size, 0, none⟩) 0 0) 0 [] :=
    World.ownsRow_made w _ _ (Nat.le_refl _) (by unfold maxLen; omega) rfl
  obtain ⟨r, hr0⟩ : ∃ r, r = rdE lb n := ⟨_, rfl⟩
  have hne : ((r : Int) == 0) = false := by simp; omega
  have hne2 : ((r : Int) != 0) = true := by simp; omega
  have HR := Lib.hid hr0
  clear hr0
  go_enter Try.func4, Try.ntmps4
  go_wp2_with (at_builtin
               refine wpList_append_any _ rfl (.tmp 15) (.tmp 16) _ rfl w.heap.size 5 i0 _ 1 1 Try.underlying33 hi0 hz0 hz1 hz2 rfl (by omega) (.slice (some ⟨w.heap.size, 0, none⟩) 0 0) 0 [] rfl
                 hown0 w.heap.size A nb cb (bs lb) rfl (hr.alloc (Nat.le_refl _) _) (bs_one lb) (by unfold maxLen; omega) (by omega) (by simp) ?_
               intro v1 w1 hown1 hg1 hat1)
  have hb1 : Below w.heap.size w w1 := ((Below.refl _ _).alloc (Nat.le_refl _) _).grown hg1 (by simp) (fun k hk => by simp [Value.ownBlock] at hk; omega)
  rw [Nat.zero_add, List.nil_append] at hown1
  clear hg1 hat1 hown0
  obtain ⟨A1, c1, rfl, hc1, _, r1⟩ := own_slice hown1
  refine (Read_no A1 nb c1 n lb w1 r1 hlb (by omega) hE).mono ?_
  rintro e w2 ⟨rfl, hb2⟩
  rw [← HR.out]
  have hown2 := own_below hown1 hb2
  have hB2 := hb1.trans (hb2.mono hb1.size)
  clear hown1 r1 hb1 hb2
  go_wp2_with fail
  go_loopg [8] nb (fun gk s8 wr => ∃ k : Nat, k + gk = nb ∧ s8 = .int .i64 (k : Int) ∧ Turned w wr (.slice A1 nb c1) nb)
  case atStart => exact ⟨0, by omega, rfl, lb, hown2, hlb, hB2⟩
  case round =>
    clear hown2 hB2
    obtain ⟨k, hkg, rfl, l, hown, hl, hb⟩ := hrel
    cases gk with
    | succ g1 =>
      have hlt : k < nb := by omega
      obtain ⟨g, cap, hv, hgw, hcell, hfr⟩ := own_g hown (by omega)
      injection hv with a1 a2 a3
      subst a1 a3
      have hc := hcell k hlt
      have hf := hfr k
      have hx := getD_byte hl k
      obtain ⟨x, hx0⟩ : ∃ x, x = l.getD k 0 := ⟨_, rfl⟩
      rw [← hx0] at hc hx
      have hst := own_set hown hlt ((x + 1) % 256)
      have HST := Lib.hid hst
      clear hcell hfr hx0 hst
      go_wp2_with fail
      go_roundg g1
      case measure => omega
      case rel => exact ⟨k + 1, by omega, by go_num, l.set k ((x + 1) % 256), HST.out, fun y hy => by
          rcases List.mem_or_eq_of_mem_set hy with h1 | h1
          · exact hl y h1
          · omega, hb.setCell hgw _⟩
    | zero =>
      obtain rfl : k = nb := by omega
      obtain ⟨w3, rfl⟩ : ∃ w3 : World, w3 = wr := ⟨_, rfl⟩
      clear hown
      go_wp2_with fail
      refine (refRd_any A k cb n lb w3 ((hr.below hb).more hb.size) hlb).mono ?_
      rintro e w4 (⟨_, rfl, hb4⟩ | ⟨h0, _⟩)
      · rw [← HR.out]
        have hB4 := hb.trans (hb4.mono hb.size)
        go_wp2_with fail
        refine (awake_any w4).mono ?_
        rintro e w5 ⟨rfl, hb5⟩
        go_wp2_with fail
        go_ret
        exact ⟨rfl, hB4.trans (hb5.mono hB4.size)⟩
      · exact absurd h0 hE
set_option maxHeartbeats 2000000 in
theorem reads_ok (A : Option Addr) (nb cb n : Nat) (lb : List Nat) (w : World) (hr : Reads w w.heap.size 1 A nb (bs lb)) (hlb : ∀ x ∈ lb, x < 256) (h : nb ≤ 500) (hn : n ≤ 65536) (hok : OkS n lb) :
    Calls Try.prog 4 #[.slice A nb cb, .int .i64 (n : Int)] w fun e w' => e = .returned (.bool true) ∧ Below w.heap.size w w' := by
  have hE : rdE lb (n : Int) = 0 := rdE_of_ok hn hok
  have d1 : decide ((500 : Int) < (nb : Int)) = false := by simp; omega
  obtain ⟨i0, hi0, hz0, hz1, hz2⟩ := info_parts info_u8
  have hown0 : (w.alloc (.cells #[] 5)).ownsRow w.heap.size 5 1 (.slice (some ⟨w.heap.size, 0, none⟩) 0 0) 0 [] :=
    World.ownsRow_made w _ _ (Nat.le_refl _) (by unfold maxLen; omega) rfl
  have HR := Lib.hid hE
  clear hE
  go_enter Try.func4, Try.ntmps4
  go_wp2_with (at_builtin
               refine wpList_append_any _ rfl (.tmp 15) (.tmp 16) _ rfl w.heap.size 5 i0 _ 1 1 Try.underlying33 hi0 hz0 hz1 hz2 rfl (by omega) (.slice (some ⟨w.heap.size, 0, none⟩) 0 0) 0 [] rfl
                 hown0 w.heap.size A nb cb (bs lb) rfl (hr.alloc (Nat.le_refl _) _) (bs_one lb) (by unfold maxLen; omega) (by omega) (by simp) ?_
               intro v1 w1 hown1 hg1 hat1)
  have hb1 : Below w.heap.size w w1 := ((Below.refl _ _).alloc (Nat.le_refl _) _).grown hg1 (by simp) (fun k hk => by simp [Value.ownBlock] at hk; omega)
  rw [Nat.zero_add, List.nil_append] at hown1
  clear hg1 hat1 hown0
  obtain ⟨A1, c1, rfl, hc1, _, r1⟩ := own_slice hown1
  have HLT : Hid (∀ gb, (Value.slice A1 nb c1).ownBlock = some gb → gb < w1.heap.size) := Lib.hid (fun gb hgb => (hown1.lt gb hgb).2)
  refine (Read_ok A1 nb c1 n lb w1 r1 hn hok).mono ?_
  rintro e w2 ⟨g, h', rfl, s2, hb2⟩
  have hown2 := own_below hown1 hb2
  have hB2 := hb1.trans (hb2.mono hb1.size)
  clear hown1 r1 hb1 hb2
  go_wp2_with fail
  go_loopg [8] nb (fun gk s8 wr => ∃ k : Nat, k + gk = nb ∧ s8 = .int .i64 (k : Int) ∧ Turned w wr (.slice A1 nb c1) nb ∧ SetIn wr w1.heap.size g h' n lb)
  case atStart => exact ⟨0, by omega, rfl, ⟨lb, hown2, hlb, hB2⟩, s2⟩
  case round =>
    clear hown2 hB2 s2
    obtain ⟨k, hkg, rfl, ⟨l, hown, hl, hb⟩, s⟩ := hrel
    cases gk with
    | succ g1 =>
      have hlt : k < nb := by omega
      obtain ⟨gb, cap, hv, hgw, hcell, hfr⟩ := own_g hown (by omega)
      injection hv with a1 a2 a3
      subst a1 a3
      have hc := hcell k hlt
      have hf := hfr k
      have hx := getD_byte hl k
      obtain ⟨x, hx0⟩ : ∃ x, x = l.getD k 0 := ⟨_, rfl⟩
      rw [← hx0] at hc hx
      have hst := own_set hown hlt ((x + 1) % 256)
      have HST := Lib.hid hst
      have hgl := HLT.out gb rfl
      have s' := s.setCell (p := ⟨gb, k, none⟩) (by have := s.bg; simp; omega) (by have := s.bh; simp; omega) (.int .u8 (((x + 1) % 256 : Nat) : Int))
      clear hcell hfr hx0 hst hgl
      go_wp2_with fail
      go_roundg g1
      case measure => omega
      case rel => exact ⟨k + 1, by omega, by go_num, ⟨l.set k ((x + 1) % 256), HST.out, fun y hy => by
          rcases List.mem_or_eq_of_mem_set hy with h1 | h1
          · exact hl y h1
          · omega, hb.setCell hgw _⟩, s'⟩
    | zero =>
      obtain rfl : k = nb := by omega
      obtain ⟨w3, rfl⟩ : ∃ w3 : World, w3 = wr := ⟨_, rfl⟩
      clear hown
      go_wp2_with fail
      refine (refRd_any A k cb n lb w3 ((hr.below hb).more hb.size) hlb).mono ?_
      rintro e w4 (⟨h0, _⟩ | ⟨_, Ax, cx, rfl, rx, hb4⟩)
      · exact absurd HR.out h0
      · rw [Int.toNat_natCast] at rx ⊢
        have s4 := s.below hb4 (Nat.le_refl _)
        have hB4 := hb.trans (hb4.mono hb.size)
        clear s hb hb4
        go_wp2_with fail
        refine (Bytes_any s4).mono ?_
        rintro e w5 ⟨q, rfl, hq, hq2, hb5⟩
        have s5 := s4.below hb5 (Nat.le_refl _)
        have hB5 := hB4.trans (hb5.mono hB4.size)
        have rx5 := (rx.below hb5).more hb5.size
        clear s4 hB4 hb5 rx
        go_wp2_with fail
        refine (refBytes_any Ax n cx lb w5 rx5 hn hok).mono ?_
        rintro e w6 ⟨v6, rfl, o6, hb6⟩
        obtain ⟨A6, c6, rfl, _, _, r6⟩ := own_slice o6
        have s6 := s5.below hb6 (Nat.le_refl _)
        have hB6 := hB5.trans (hb6.mono hB5.size)
        have hq6 := hq.below hb6 hq.lt
        clear s5 hB5 hb6 rx5 o6 hq
        go_wp2_with fail
        refine (same_true (some ⟨q, 0, none⟩) A6 lb.length lb.length lb.length c6 lb w6 (reads_blk hq6 _ _ _ hq6.lt (bs_length lb) (by simp [bs_length, List.take_of_length_le])) r6 (by have := s6.size.2; omega)).mono ?_
        rintro e w7 ⟨rfl, hd7⟩
        have s7 := s6.drawn hd7
        have hB7 := hd7.below hB6
        clear s6 hB6 r6 hq6 hd7
        go_wp2_with fail
        refine (Len_any s7).mono ?_
        rintro e w' ⟨rfl, rfl⟩
        go_wp2_with fail
        refine (awake_any w7).mono ?_
        rintro e w8 ⟨rfl, hb8⟩
        go_wp2_with fail
        go_ret
        exact ⟨rfl, hB7.trans (hb8.mono hB7.size)⟩
theorem reads_any (A : Option Addr) (nb cb : Nat) (n : Int) (lb : List Nat) (w : World) (hr : Reads w w.heap.size 1 A nb (bs lb)) (hlb : ∀ x ∈ lb, x < 256) :
    Calls Try.prog 4 #[.slice A nb cb, .int .i64 n] w fun e w' => e = .returned (.bool true) ∧ Below w.heap.size w w' := by
  by_cases h : 500 < nb
  · exact reads_else A nb cb n w h
  · by_cases hE : rdE lb n = 0
    · obtain ⟨h0, h1, hok⟩ := rdE_ok hlb hE
      obtain ⟨N, rfl⟩ : ∃ N : Nat, n = (N : Int) := ⟨n.toNat, by omega⟩
      rw [Int.toNat_natCast] at hok
      exact reads_ok A nb cb N lb w hr hlb (by omega) (by omega) hok
    · exact reads_no A nb cb n lb w hr hlb (by omega) hE
end Go.Proofs.Ytgfpemndbgdhdaa
