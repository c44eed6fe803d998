/- The walk of the statement NumBack: for all numbers and bytes it answers true, and nothing that was there changes. -/
import Derived.Test.YtphecljgbnkmlaaDoorBackPlain
import Derived.Test.YtphecljgbnkmlaaDoorCutLaw
import Derived.Test.YtphecljgbnkmlaaDoorPut
import Derived.Test.YtphecljgbnkmlaaDoorZig
namespace Go.Proofs.YtphecljgbnkmlaaDoor
open Go.RowKit
set_option linter.unusedVariables false
set_option maxRecDepth 100000

theorem Reads.next {w w' : World} {size n : Nat} {A : Option Addr} {xs : List Value} (h : Reads w w.heap.size size A n xs) (hb : Below w.heap.size w w') : Reads w' w'.heap.size size A n xs :=
  (h.below hb).more hb.size
theorem fix_good {w : World} {g : Nat} {l : List Nat} {at_ : Nat} (size x : Nat) (h : RdS w g l at_ none) (hs : size ≤ 8) (hroom : at_ + size ≤ l.length) (hx : unfx ((l.drop at_).take size) = x) :
    Calls Tryd.prog 10 #[.pointer (some ⟨g, 0, none⟩), .int .i64 (size : Int)] w fun e w' => e = .returned (.int .u64 (x : Int)) ∧ RdTo w g l (at_ + size) none w' := by
  obtain ⟨A, n, c, err, hR, rfl⟩ := h
  exact (fix_ok size hR hs (by have := hR.length; omega)).mono fun e w' ⟨he, hr, hg⟩ => ⟨by rw [he, hx], ⟨A, n, c, _, hr, rfl⟩, hg⟩

theorem zag_int (x : Int) (w : World) (h0 : 0 ≤ x) (hx : x < 18446744073709551616) : Calls Tryd.prog 27 #[.int .u64 x] w fun e w' => e = .returned (.int .i64 (zagI x)) ∧ w = w' := by
  obtain ⟨v, rfl⟩ := Int.eq_ofNat_of_zero_le h0
  exact zag_any v w (by omega)

set_option maxHeartbeats 400000 in
theorem numBack_big (v : Nat) (k : Int) (A A' : Option Addr) (n c m c' : Nat) (w : World) (h : 300 < n ∨ 300 < m) :
    Calls Tryd.prog 4 #[.int .u64 (v : Int), .int .i64 k, .slice A n c, .slice A' m c'] w fun e w' => e = .returned (.bool true) ∧ Below w.heap.size w w' := by
  by_cases h1 : 300 < n
  · go_enter Tryd.func4, Tryd.ntmps4
    go_wp2_with (go_at_call 6; refine (awake_any _).mono ?_; rintro e w5 ⟨rfl, hb5⟩)
    go_ret
    exact ⟨rfl, hb5⟩
  · have h2 : 300 < m := by omega
    go_enter Tryd.func4, Tryd.ntmps4
    go_wp2_with (go_at_call 6; refine (awake_any _).mono ?_; rintro e w5 ⟨rfl, hb5⟩)
    go_ret
    exact ⟨rfl, hb5⟩

set_option maxHeartbeats 2000000 in
theorem numBack_small (v : Nat) (k : Int) (A A' : Option Addr) (n c m c' : Nat) (p rest : List Nat) (w : World) (hv : v < 18446744073709551616) (hk1 : -9223372036854775808 ≤ k) (hk2 : k ≤ 9223372036854775807)
    (hn : n ≤ 300) (hm : m ≤ 300) (hp : Reads w w.heap.size 1 A n (bs p)) (hr : Reads w w.heap.size 1 A' m (bs rest)) (hpb : ∀ b ∈ p, b < 256) (hrb : ∀ b ∈ rest, b < 256) (hmet : Met w) :
    Calls Tryd.prog 4 #[.int .u64 (v : Int), .int .i64 k, .slice A n c, .slice A' m c'] w fun e w' => e = .returned (.bool true) ∧ Below w.heap.size w w' := by
  obtain ⟨i0, hi0, hz0, hz1, hz2⟩ := info_parts info_u8
  have hnp : p.length = n := by have := hp.1; rw [bs_length] at this; omega
  have hmr : rest.length = m := by have := hr.1; rw [bs_length] at this; omega
  subst hnp
  subst hmr
  have hV := vb_length v
  have hP := vb_length p.length
  have hBL : (blob p).length ≤ 310 := by rw [blob_length]; omega
  have hF8 := fx_length 8 v
  have HF8 := Lib.hid hF8
  clear hF8
  go_enter Tryd.func4, Tryd.ntmps4
  go_wp2_with fail
  refine (putVar_any none 0 0 v [] w hv Reads.none_ (by simp) (by omega)).mono ?_
  intro e1 w1 h1
  rw [Nat.zero_add, List.nil_append] at h1
  obtain ⟨A1, c1, rfl, _, hr1, hb1⟩ := h1.opened
  clear h1
  go_wp2_with fail
  refine (putFix_any A1 (vb v).length c1 v 8 (bs (vb v)) w1 hv hr1 (bs_one _) (by omega)).mono ?_
  rw [show fixSize 8 = 8 from rfl]
  intro e2 w2 h2
  obtain ⟨A2, c2, rfl, _, hr2, hb2⟩ := h2.opened
  clear h2
  have hb02 := hb1.trans (hb2.mono hb1.size)
  go_wp2_with fail
  refine (putBlob_any A2 A ((vb v).length + 8) c2 p.length c (bs (vb v) ++ bs (fx 8 v)) p w2 hr2 (by rw [← bs_append]; exact bs_one _) ((hp.next hb1).next hb2) (by omega)).mono ?_
  rintro e3 w3 ⟨v3, rfl, hown3, hb3⟩
  have hb03 := hb02.trans (hb3.mono hb02.size)
  go_wp2_with (at_builtin
               refine wpList_append_any _ rfl (.tmp 31) (.tmp 32) _ rfl w2.heap.size 5 i0 _ 1 1 Tryd.underlying22 hi0 hz0 hz1 hz2 rfl (by omega) v3 ((vb v).length + 8 + (blob p).length) (bs (vb v) ++ bs (fx 8 v) ++ bs (blob p)) rfl
                 hown3 w3.heap.size A' rest.length c' (bs rest) rfl ((hr.next hb02).next hb3) (bs_one _) (by unfold maxLen; omega) (by omega) hb3.size ?_
               intro v4 w4 hown4 hg4 hat4
               obtain ⟨A4, c4, rfl, _, _, hr4⟩ := own_slice hown4)
  have hN : Reads w4 w4.heap.size 1 A4 ((vb v).length + 8 + (blob p).length + rest.length) (bs (laid4 v p rest)) := by
    have e : bs (laid4 v p rest) = bs (vb v) ++ bs (fx 8 v) ++ bs (blob p) ++ bs rest := by unfold laid4; simp [bs_append, List.append_assoc]
    rw [e]; exact hr4
  have h256 : ∀ b ∈ laid4 v p rest, b < 256 := by
    intro b hb
    unfold laid4 at hb
    rcases List.mem_append.1 hb with hb | hb
    · exact vb_byte v hv b hb
    rcases List.mem_append.1 hb with hb | hb
    · exact fx_byte 8 v b hb
    rcases List.mem_append.1 hb with hb | hb
    · exact blob_byte p hpb (by omega) b hb
    · exact hrb b hb
  have hb04 : Below w.heap.size w w4 := hb03.grown hg4 hb03.size (fun k hk => by have := (hown3.lt k hk).1; have := hb02.size; omega)
  refine (newReader_any A4 _ c4 (laid4 v p rest) w4 hN (by omega) h256).mono ?_
  rintro e5 w5 ⟨g, A5, c5, rfl, hg5, hR5, hb5⟩
  have hS5 := rd_new hR5
  have hb05 := hb04.trans (hb5.mono hb04.size)
  have hgw : w.heap.size ≤ g := by have := hb04.size; omega
  have HV := Lib.hid (laid4_var v p rest hv)
  have HX := Lib.hid (laid4_fix v p rest hv)
  have HB := Lib.hid (laid4_blob v p rest hn)
  have HL := Lib.hid (laid4_len v p rest)
  clear hN h256 hr4 hown3 hg4 hown4 hat4 hr1 hr2 hR5
  go_wp2_with fail
  refine (var_is hS5).mono ?_
  rw [HV.out]
  rintro e6 w6 ⟨rfl, hS6, hg6⟩
  have hb06 : Below w.heap.size w w6 := hb05.grown hg6 hb05.size (fun k hk => by injection hk with hk; omega)
  go_wp2_with fail
  refine (fix_good 8 v hS6 (by omega) (by rw [HL.out]; omega) HX.out).mono ?_
  rintro e7 w7 ⟨rfl, hS7, hg7⟩
  have hb07 : Below w.heap.size w w7 := hb06.grown hg7 hb06.size (fun k hk => by injection hk with hk; omega)
  go_wp2_with fail
  refine (blob_is 300 hS7 (by omega) (by omega)).mono ?_
  rw [HB.out]
  rintro e8 w8 ⟨⟨A8, n8, c8, rfl, hr8⟩, hS8, hg8⟩
  have hb08 : Below w.heap.size w w8 := hb07.grown hg8 hb07.size (fun k hk => by injection hk with hk; omega)
  have hr8' : Reads w8 w8.heap.size 1 A8 n8 (bs p) := hr8
  clear hr8
  have hr8 := hr8'
  clear hr8'
  have hn8 : n8 ≤ 300 := by have := hr8.1; rw [bs_length] at this; omega
  go_wp2_with fail
  refine (err_is (hmet.next hb08) hS8).mono ?_
  rintro e9 w9 ⟨he9, hb9⟩
  have he9' : e9 = .returned (.tuple #[.int .i64 0, .int .i64 0]) := he9
  subst he9'
  clear he9
  have hb09 := hb08.trans (hb9.mono hb08.size)
  have hS9 := hS8.next hb9
  go_wp2_with fail
  refine (same_true A8 A n8 c8 p.length c p w9 (hr8.next hb9) (hp.next hb09) (by omega)).mono ?_
  rintro e10 w10 ⟨rfl, hd10⟩
  have hb10 := hd10.below hb09
  have hS10 := hS9.next (hd10.below (Below.refl _ _))
  go_wp2_with fail
  have hLv : ((laid4 v p rest).length : Int) - (((vb v).length + 8 + ((vb p.length).length + p.length) : Nat) : Int) = (rest.length : Int) := by rw [HL.out]; omega
  have HLv := Lib.hid hLv
  clear hLv
  refine (left_is hS10).mono ?_
  rw [HLv.out]
  rintro e11 w11 ⟨rfl, hd11⟩
  have hb11 := hd11.below hb10
  go_wp2_with fail
  refine (zig_any k w11 hk1 hk2).mono ?_
  rintro e12 _ ⟨rfl, rfl⟩
  have hzr := zigI_range k hk1 hk2
  go_wp2_with fail
  refine (zag_int (zigI k) w11 hzr.1 hzr.2).mono ?_
  rw [zag_zig]
  rintro e13 _ ⟨rfl, rfl⟩
  go_wp2_with fail
  refine (zag_any v w11 hv).mono ?_
  rintro e14 _ ⟨rfl, rfl⟩
  have hzr2 := zagI_range (v : Int) (by omega) (by omega)
  go_wp2_with fail
  refine (zig_any (zagI (v : Int)) w11 hzr2.1 hzr2.2).mono ?_
  rw [zig_zag (v : Int) (by omega)]
  rintro e15 _ ⟨rfl, rfl⟩
  go_wp2_with fail
  refine (awake_any w11).mono ?_
  rintro e16 w16 ⟨rfl, hb16⟩
  go_wp2_with fail
  go_ret
  exact ⟨rfl, hb11.trans (hb16.mono hb11.size)⟩
end Go.Proofs.YtphecljgbnkmlaaDoor
