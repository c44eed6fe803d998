/- Contract of the document's Read of marks. -/
import Derived.Deep.LoopGhost
import Derived.Test.YtgfpemndbgdhdaaBmRead
import Derived.Test.YtgfpemndbgdhdaaBmRef
namespace Go.Proofs.Ytgfpemndbgdhdaa
open Go.RowKit
set_option linter.unusedVariables false
set_option linter.unusedSimpArgs false
set_option maxRecDepth 100000

/-- What the document's Read answers: none and the error's number, or the marks. -/
def RefNo (w : World) (r : Nat) (e : Ending) (w' : World) : Prop := e = .returned (.tuple #[.slice none 0 0, .int .i64 (r : Int)]) ∧ Below w.heap.size w w'
def RefOk (w : World) (n : Nat) (b : List Nat) (e : Ending) (w' : World) : Prop := ∃ A c, e = .returned (.tuple #[.slice A n c, .int .i64 0]) ∧ Reads w' w'.heap.size 1 A n (bl (bit b) n) ∧ Below w.heap.size w w'
def RefRd (w : World) (n : Int) (b : List Nat) (e : Ending) (w' : World) : Prop := (rdE b n ≠ 0 ∧ RefNo w (rdE b n) e w') ∨ (rdE b n = 0 ∧ RefOk w n.toNat b e w')
theorem refRd_arg (A : Option Addr) (m c : Nat) (n : Int) (b : List Nat) (w : World) (h : n < 0 ∨ 65536 < n) : Calls Try.prog 22 #[.slice A m c, .int .i64 n] w (RefRd w n b) := by
  have HE := Lib.hid (rdE_arg (b := b) h)
  rcases h with h | h
  · go_enter Try.func22, Try.ntmps22
    go_wp2_with fail
    go_ret2
    exact .inl ⟨by rw [HE.out]; omega, by rw [HE.out]; rfl, Below.refl _ _⟩
  · have h' : ¬ n < 0 := by omega
    go_enter Try.func22, Try.ntmps22
    go_wp2_with fail
    go_ret2
    exact .inl ⟨by rw [HE.out]; omega, by rw [HE.out]; rfl, Below.refl _ _⟩
theorem sizes (n kq : Nat) (h : kq = n / 8) : (8 * kq < n ∧ siz n = kq + 1) ∨ (¬ 8 * kq < n ∧ siz n = kq) := by unfold siz; omega
theorem refRd_len (A : Option Addr) (m c n : Nat) (b : List Nat) (w : World) (hn : n ≤ 65536) (hb : b.length = m) (hm : m ≠ siz n) : Calls Try.prog 22 #[.slice A m c, .int .i64 (n : Int)] w (RefRd w n b) := by
  obtain ⟨kq, hkq⟩ : ∃ kq : Nat, kq = n / 8 := ⟨_, rfl⟩
  have rq : (n : Int) / 8 = (kq : Int) := by omega
  have hk9 : kq ≤ 8192 := by omega
  have hs := sizes n kq hkq
  clear hkq
  have hE : (m < siz n ∧ rdE b (n : Int) = 2) ∨ (siz n < m ∧ rdE b (n : Int) = 3) := by
    by_cases h : m < siz n
    · exact .inl ⟨h, rdE_short hn (by omega)⟩
    · exact .inr ⟨by omega, rdE_long hn (by omega)⟩
  clear hb
  rcases hE with ⟨h1, h2⟩ | ⟨h1, h2⟩
  · have HE := Lib.hid h2
    clear h2
    rcases hs with ⟨h3, h4⟩ | ⟨h3, h4⟩
    · have d : m < kq + 1 := by omega
      have d0 : decide (m < kq + 1) = true := by simpa using d
      clear h4 hm h1
      go_enter Try.func22, Try.ntmps22
      go_wp2_with fail
      go_ret2
      exact .inl ⟨by rw [HE.out]; omega, by rw [HE.out]; rfl, Below.refl _ _⟩
    · have d : m < kq := by omega
      clear h4 hm h1
      go_enter Try.func22, Try.ntmps22
      go_wp2_with fail
      go_ret2
      exact .inl ⟨by rw [HE.out]; omega, by rw [HE.out]; rfl, Below.refl _ _⟩
  · have HE := Lib.hid h2
    clear h2
    rcases hs with ⟨h3, h4⟩ | ⟨h3, h4⟩
    · have d : ¬ m < kq + 1 := by omega
      have d' : kq + 1 < m := by omega
      have d0 : decide ((m : Int) < (kq : Int) + 1) = false := by simp; omega
      have d1 : decide ((kq : Int) + 1 < (m : Int)) = true := by simp; omega
      clear h4 hm h1
      go_enter Try.func22, Try.ntmps22
      go_wp2_with fail
      go_ret2
      exact .inl ⟨by rw [HE.out]; omega, by rw [HE.out]; rfl, Below.refl _ _⟩
    · have d : ¬ m < kq := by omega
      have d' : kq < m := by omega
      clear h4 hm h1
      go_enter Try.func22, Try.ntmps22
      go_wp2_with fail
      go_ret2
      exact .inl ⟨by rw [HE.out]; omega, by rw [HE.out]; rfl, Below.refl _ _⟩
theorem rdE_no {n : Nat} {b : List Nat} (hn : n ≤ 65536) (hl : b.length = siz n) (hb : ∀ x ∈ b, x < 256) (k : Nat) (hk : n ≤ k) (h : bit b k = true) : rdE b (n : Int) = 4 := by
  refine rdE_form hn hl ?_
  cases e : lef b n with
  | true => rfl
  | false => have := ((lef_no hl hb).1 e).left k h; omega
theorem rdE_yes {n : Nat} {b : List Nat} (hn : n ≤ 65536) (hl : b.length = siz n) (hb : ∀ x ∈ b, x < 256) (h : ∀ k, n ≤ k → k < 8 * b.length → bit b k = false) : rdE b (n : Int) = 0 := by
  refine rdE_of_ok hn ⟨hl, hb, fun k hk => ?_⟩
  rcases Nat.lt_or_ge k n with h1 | h1
  · exact h1
  · by_cases h2 : k < 8 * b.length
    · rw [h k h1 h2] at hk; cases hk
    · exfalso
      unfold bit at hk
      have : b.getD (k / 8) 0 = 0 := by rw [List.getD_eq_getElem?_getD, List.getElem?_eq_none (by omega)]; rfl
      rw [this, Nat.zero_testBit] at hk
      cases hk
theorem odd_bit (x j y : Nat) (h : y = x / 2 ^ j) : ((y : Int) % 2 == 1) = x.testBit j := by
  rw [Nat.testBit_eq_decide_div_mod_eq, ← h]
  by_cases e : y % 2 = 1
  · have : (y : Int) % 2 = 1 := by omega
    simp [e, this]
  · have : (y : Int) % 2 = 0 := by omega
    simp [e, this]
set_option maxHeartbeats 2000000 in
theorem refRd_bits (A : Option Addr) (m c n : Nat) (b : List Nat) (w : World) (hr : Reads w w.heap.size 1 A m (bs b)) (hb : ∀ x ∈ b, x < 256) (hn : n ≤ 65536) (hm : m = siz n) : Calls Try.prog 22 #[.slice A m c, .int .i64 (n : Int)] w (RefRd w n b) := by
  obtain ⟨ib, hib, hx0, hx1, hx2⟩ := info_parts info_bool
  have hlen : b.length = m := by have := hr.1; rw [bs_length] at this; omega
  obtain ⟨kq, hkq⟩ : ∃ kq : Nat, kq = n / 8 := ⟨_, rfl⟩
  have rq : (n : Int) / 8 = (kq : Int) := by omega
  have hk9 : kq ≤ 8192 := by omega
  have hs := sizes n kq hkq
  have HL := Lib.hid (And.intro hlen hm)
  have hm9 : m ≤ 8192 := by unfold siz at hm; omega
  have hn8 : n ≤ 8 * m := by unfold siz at hm; omega
  clear hkq
  rcases hs with ⟨h3, h4⟩ | ⟨h3, h4⟩
  case' inl =>
    have hmk : (kq : Int) + 1 = (m : Int) := by omega
    have d8 : decide (8 * (kq : Int) < (n : Int)) = true := by simp; omega
    clear h4 hm hlen
    go_enter Try.func22, Try.ntmps22
    go_wp2_with fail
  case' inr =>
    obtain rfl : m = kq := by omega
    clear h4 hm hlen
    go_enter Try.func22, Try.ntmps22
    go_wp2_with fail
  all_goals
    go_loopg [7, 8, 9, 10] m (fun gk s7 s8 s9 s10 wr => ∃ t : Nat, t + gk = m ∧ s8 = .int .i64 (t : Int) ∧ wr.ownsRow w.heap.size 4 1 s7 (8 * t) (bl (bit b) (8 * t)) ∧ Below w.heap.size w wr)
    case atStart => exact ⟨0, by omega, rfl, World.ownsRow_nil _ _ _ _, Below.refl _ _⟩
    case round =>
      obtain ⟨t, htg, rfl, hown, hbw⟩ := hrel
      cases gk with
      | succ g1 =>
        have hlt : t < m := by omega
        obtain ⟨ad, u, rfl, _, hu, hc⟩ := (hr.below hbw).at_ hlt
        obtain ⟨x, hx, rfl⟩ := bs_at hu
        have hx9 : x < 256 := hb x (List.mem_of_getElem? hx)
        have hbit : ∀ j, j < 8 → bit b (8 * t + j) = x.testBit j := fun j hj => by rw [bit_at b t j hj, List.getD_eq_getElem?_getD, hx]; rfl
        have HBIT := Lib.hid hbit
        clear hu hx hbit
        go_wp2_with fail
        go_loopg [7, 9, 10] 8 (fun gk s7 s9 s10 wx => ∃ j y : Nat, j + gk = 8 ∧ y < 256 ∧ s10 = .int .i64 (j : Int) ∧ s9 = .int .u8 (y : Int) ∧ Hid (y = x / 2 ^ j) ∧ wx.ownsRow w.heap.size 4 1 s7 (8 * t + j) (bl (bit b) (8 * t + j)) ∧ Below w.heap.size w wx)
        case atStart => exact ⟨0, x, by omega, hx9, rfl, rfl, Lib.hid (by simp), hown, hbw⟩
        case round =>
          clear hown hc hbw
          obtain ⟨j, y, hjg, hy9, rfl, rfl, hy, hown, hbw⟩ := hrel
          have hzw := hbw.size
          cases gk with
          | zero =>
            obtain rfl : j = 8 := by omega
            go_wp2_with fail
            go_roundg g1
            case measure => omega
            case rel => exact ⟨t + 1, by omega, by go_num, hown, hbw⟩
          | succ g2 =>
            have hj8 : j < 8 := by omega
            have hodd := odd_bit x j y hy.out
            have hbd : 8 * t + j ≤ 65536 := by omega
            have HO := Lib.hid hodd
            have hy2 : y / 2 < 256 := by omega
            clear hodd
            go_wp2_with (at_builtin
                         refine wpList_append_any _ rfl (.tmp 48) (.tmp 52) _ rfl w.heap.size 4 ib _ 1 1 Try.underlying26 hib hx0 hx1 hx2 rfl (by omega) u7 (8 * t + j) (bl (bit b) (8 * t + j)) rfl
                           (hown.alloc _) (wr.heap.size + 1) (some ⟨wr.heap.size, 0, none⟩) 1 1 [.bool ((y : Int) % 2 == 1)] rfl (Reads.new wr _ _) (one_bool _) (by unfold maxLen; omega) (by omega) (by simp; omega) ?_
                         intro v2 w2 hown2 hg2 hat2)
            rw [HO.out, ← HBIT.out j hj8, ← bl_snoc] at hown2
            go_roundg g2
            case measure => omega
            case rel => exact ⟨j + 1, y / 2, by omega, hy2, by go_num, by go_num, Lib.hid (by rw [hy.out, Nat.div_div_eq_div_mul, Nat.pow_succ]), hown2, below_app hbw hown hzw hg2⟩
      | zero =>
        obtain rfl : t = m := by omega
        obtain ⟨A7, c7, rfl, hc7, _, r7⟩ := own_slice hown
        obtain ⟨w1, rfl⟩ : ∃ w1 : World, w1 = wr := ⟨_, rfl⟩
        go_wp2_with fail
        go_loopg [11] (8 * t - n) (fun gk s11 wx => ∃ k : Nat, k + gk = 8 * t ∧ s11 = .int .i64 (k : Int) ∧ n ≤ k ∧ Hid (∀ j, n ≤ j → j < k → bit b j = false) ∧ wx = w1)
        case atStart => exact ⟨n, by omega, rfl, Nat.le_refl _, Lib.hid (fun j h1 h2 => by omega), rfl⟩
        case round =>
          obtain ⟨k, hkg, rfl, hnk, hno, rfl⟩ := hrel
          cases gk with
          | succ g1 =>
            have hlt : k < 8 * t := by omega
            obtain ⟨ad, rfl, _, hcell⟩ := bl_cell r7 hlt
            have hd : decide ((k : Int) < 8 * (t : Int)) = true := by simp; omega
            cases hf : bit b k with
            | true =>
              have HE := Lib.hid (rdE_no hn (by rw [HL.out.1]; exact HL.out.2) hb k hnk hf)
              rw [hf] at hcell
              clear hf
              go_wp2_with fail
              go_ret2
              exact .inl ⟨by rw [HE.out]; omega, by rw [HE.out]; rfl, hbw⟩
            | false =>
              rw [hf] at hcell
              have HF := Lib.hid hf
              clear hf
              go_wp2_with fail
              go_roundg g1
              case measure => omega
              case rel => exact ⟨k + 1, by omega, by go_num, by omega, Lib.hid (fun j h1 h2 => by
                by_cases e : j = k
                · rw [e]; exact HF.out
                · exact hno.out j h1 (by omega)), rfl⟩
          | zero =>
            obtain rfl : k = 8 * t := by omega
            have HE := Lib.hid (rdE_yes hn (by rw [HL.out.1]; exact HL.out.2) hb (fun j h1 h2 => hno.out j h1 (by rw [HL.out.1] at h2; exact h2)))
            go_wp2_with fail
            go_ret2
            refine .inr ⟨HE.out, A7, c7, by rw [Int.toNat_natCast]; rfl, ?_, hbw⟩
            have hf := r7.fore hn8
            rw [Nat.mul_one, bl_take _ hn8] at hf
            rw [Int.toNat_natCast]
            exact hf
theorem refRd_any (A : Option Addr) (m c : Nat) (n : Int) (b : List Nat) (w : World) (hr : Reads w w.heap.size 1 A m (bs b)) (hb : ∀ x ∈ b, x < 256) : Calls Try.prog 22 #[.slice A m c, .int .i64 n] w (RefRd w n b) := by
  by_cases h : n < 0 ∨ 65536 < n
  · exact refRd_arg A m c n b w h
  · obtain ⟨k, rfl⟩ : ∃ k : Nat, n = (k : Int) := ⟨n.toNat, by omega⟩
    have hlen : b.length = m := by have := hr.1; rw [bs_length] at this; omega
    by_cases hm : m = siz k
    · exact refRd_bits A m c k b w hr hb (by omega) hm
    · exact refRd_len A m c k b w (by omega) hlen hm
end Go.Proofs.Ytgfpemndbgdhdaa
