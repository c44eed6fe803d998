import Derived.Deep.LoopGhost
import Derived.Test.YtpgdlmnhomnblaaGreatDoorJ8
import Derived.Test.YtpgdlmnhomnblaaGreatDoorJ13
import Derived.Test.YtpgdlmnhomnblaaGreatDoorJ10
import Derived.Test.YtpgdlmnhomnblaaGreatDoorJ6
namespace Go.Proofs.YtpgdlmnhomnblaaGreatDoor
open Go.RowKit
set_option linter.unusedVariables false
set_option linter.unusedSimpArgs false
set_option maxRecDepth 100000
theorem lay_step (X held v rest : Nat) (hh : held < 8) (hv : v = X / 2 ^ held % 2 ^ rest) :
    (rest < 8 - held → (X % 2 ^ held) ||| (v * 2 ^ held % 256) = X % 2 ^ (held + rest)) ∧ (8 - held ≤ rest → (X % 2 ^ held) ||| (v * 2 ^ held % 256) = X % 2 ^ 8 ∧ v / 2 ^ (8 - held) = X / 2 ^ 8 % 2 ^ (rest - (8 - held))) := by
  have h256 : 256 = 2 ^ held * 2 ^ (8 - held) := by rw [← Nat.pow_add, show held + (8 - held) = 8 by omega]
  have hor : (X % 2 ^ held) ||| (v * 2 ^ held % 256) = X % 2 ^ held + 2 ^ held * (v % 2 ^ (8 - held)) := by
    rw [h256, Nat.mul_comm v, Nat.mul_mod_mul_left, Nat.or_comm, ← Nat.two_pow_add_eq_or_of_lt (Nat.mod_lt _ (Nat.two_pow_pos held))]
    omega
  rw [hor]
  constructor
  · intro hr
    have hlt : v < 2 ^ (8 - held) := by
      rw [hv]
      exact Nat.lt_of_lt_of_le (Nat.mod_lt _ (Nat.two_pow_pos rest)) (Nat.pow_le_pow_right (by omega) (by omega))
    rw [Nat.mod_eq_of_lt hlt, hv, Nat.pow_add, Nat.mod_mul]
  · intro hr
    constructor
    · have e : v % 2 ^ (8 - held) = X / 2 ^ held % 2 ^ (8 - held) := by
        rw [hv, Nat.mod_mod_of_dvd _ (Nat.pow_dvd_pow 2 hr)]
      rw [e, ← Nat.mod_mul, ← Nat.pow_add, show held + (8 - held) = 8 by omega]
    · obtain ⟨d, rfl⟩ : ∃ d, rest = (8 - held) + d := ⟨rest - (8 - held), by omega⟩
      rw [hv, Nat.pow_add 2 (8 - held) d, Nat.mod_mul_right_div_self, Nat.div_div_eq_div_mul, ← Nat.pow_add, show held + (8 - held) = 8 by omega, show 8 - held + d - (8 - held) = d by omega]
theorem lay_val (last v held : Nat) (h : last < 256) : bits .or .u8 (last : Int) (IntKind.u64.wrap ((v : Int) * 2 ^ held) % 256) = ((last ||| (v * 2 ^ held % 256) : Nat) : Int) := by
  have e : IntKind.u64.wrap ((v : Int) * 2 ^ held) % 256 = ((v * 2 ^ held % 256 : Nat) : Int) := by
    rw [show (v : Int) * 2 ^ held = ((v * 2 ^ held : Nat) : Int) by push_cast; rfl, IntKind.wrap_u64]
    omega
  rw [e, u8_or_nat _ _ h (Nat.mod_lt _ (by omega))]
theorem small_mod (X held : Nat) (h : held < 8) : X % 2 ^ held < 256 :=
  Nat.lt_of_lt_of_le (Nat.mod_lt _ (Nat.two_pow_pos held)) (Nat.pow_le_pow_right (j := 8) (by omega) (by omega))
theorem word_mod (X r : Nat) (h : r ≤ 64) : X % 2 ^ r < 18446744073709551616 :=
  Nat.lt_of_lt_of_le (Nat.mod_lt _ (Nat.two_pow_pos r)) (Nat.pow_le_pow_right (j := 64) (by omega) h)
theorem digit_at (w : Nat) (l : List Nat) (h : ∀ a ∈ l, a < 2 ^ w) (k v o held : Nat) (hv : l[k]? = some v) (ho : 8 * o + held = k * w) : v = pk w l / 2 ^ (8 * o) / 2 ^ held % 2 ^ w := by
  obtain ⟨hk, rfl⟩ := List.getElem?_eq_some_iff.1 hv
  rw [Nat.div_div_eq_div_mul, ← Nat.pow_add, ho, Nat.mul_comm k w, pk_drop w l h, List.drop_eq_getElem_cons hk, pk_cons, Nat.add_mul_mod_self_left, Nat.mod_eq_of_lt (h _ (List.getElem_mem hk))]
theorem end_even (w : Nat) (l : List Nat) (n o : Nat) (e1 : l.length = n) (ho : 8 * o + 0 = n * w) : sz n w = o ∧ dg 8 o (pk w l) = packB w l := by
  have hs : sz n w = o := by unfold sz; omega
  refine ⟨hs, ?_⟩
  unfold packB
  rw [e1, hs]
theorem end_odd (w : Nat) (l : List Nat) (h : ∀ a ∈ l, a < 2 ^ w) (n o held last : Nat) (e1 : l.length = n) (hh : held < 8) (h0 : 0 < held) (ho : 8 * o + held = n * w) (hl : last = pk w l / 2 ^ (8 * o) % 2 ^ held) :
    sz n w = o + 1 ∧ dg 8 o (pk w l) ++ [last] = packB w l := by
  have hs : sz n w = o + 1 := by unfold sz; omega
  refine ⟨hs, ?_⟩
  unfold packB
  rw [e1, hs, dg_snoc, hl]
  have hlt := pk_lt w l h
  rw [e1, Nat.mul_comm w n, ← ho, Nat.pow_add] at hlt
  have hd : pk w l / 2 ^ (8 * o) < 2 ^ held := Nat.div_lt_of_lt_mul hlt
  rw [Nat.mod_eq_of_lt hd, Nat.mod_eq_of_lt (Nat.lt_of_lt_of_le hd (Nat.pow_le_pow_right (by omega) (by omega)))]
set_option maxHeartbeats 1000000 in
theorem packed_any (A : Option Addr) (n c : Nat) (l : List Nat) (wd' : Nat) (w : World) (hr : Reads w w.heap.size 1 A n (us l)) (hl : ∀ a ∈ l, a < 2 ^ wd') (hw : wd' ≤ 64) (hn : n ≤ 65536) :
    Calls Tryz.prog 173 #[.slice A n c, .int .i64 (wd' : Int), .int .i64 (sz n wd' : Int)] w (New w (bs (packB wd' l)) (sz n wd')) := by
  obtain ⟨i0, hi0, hz0, hz1, hz2⟩ := info_parts info_u8
  have e1 : l.length = n := by have := hr.1; rw [us_length] at this; omega
  have hs := sz_small n wd' hn hw
  have hsz : sz n wd' ≤ 524289 := by unfold sz; omega
  have hmk : ∀ W : World, (Instr.makeSlice 66 (.int .i64 0) (.int .i64 (sz n wd' : Int))).run Tryz.prog W = .ok (.slice (some ⟨W.heap.size, 0, none⟩) 0 (sz n wd')) (W.alloc (.cells (madeCells #[.int .u8 0] (sz n wd')) 5)) := fun W => run_make_u8 (sz n wd') (by omega) W
  have hown0 : (w.alloc (.cells (madeCells #[.int .u8 0] (sz n wd')) 5)).ownsRow w.heap.size 5 1 (.slice (some ⟨w.heap.size, 0, none⟩) 0 (sz n wd')) 0 [] :=
    World.ownsRow_made w _ _ (Nat.le_refl _) (by unfold maxLen; omega) (by rw [size_madeCells]; omega)
  have E1 := Lib.hid e1
  have HL := Lib.hid hl
  clear e1 hl
  obtain ⟨N, hN⟩ : ∃ N, N = pk wd' l := ⟨_, rfl⟩
  have HN := Lib.hid hN
  clear hN
  go_enter Tryz.func173, Tryz.ntmps173
  go_wp2_with fail
  go_step3
  go_wp2_with fail
  go_step3
  go_wp2_with fail
  clear hmk
  go_loopg [7, 8, 9, 18] n (fun g s7 s8 s9 s18 wr => ∃ k o held last : Nat, k + g = n ∧ s18 = .int .i64 (k : Int) ∧ s9 = .int .i64 (held : Int) ∧ s8 = .int .u8 (last : Int) ∧ held < 8 ∧ Hid (8 * o + held = k * wd') ∧ Hid (last = N / 2 ^ (8 * o) % 2 ^ held) ∧
    wr.ownsRow w.heap.size 5 1 s7 o (bs (dg 8 o N)) ∧ Below w.heap.size w wr)
  case atStart => exact ⟨0, 0, 0, 0, by omega, rfl, rfl, rfl, by omega, Lib.hid (by omega), Lib.hid (by simp [Nat.mod_one]), by simpa [dg, bs] using hown0, (Below.refl _ _).alloc (Nat.le_refl _) _⟩
  case round =>
    obtain ⟨k, o, held, last, hkg, rfl, rfl, rfl, hh, ho, hlast, hown, hbl⟩ := hrel
    cases gk with
    | zero =>
      obtain rfl : k = n := by omega
      have hl256 : last < 256 := by rw [hlast.out]; exact small_mod _ _ hh
      have hsz2 := hbl.size
      have hob : o ≤ 524288 := by have := ho.out; omega
      by_cases h0 : 0 < held
      · go_wp2_with (at_builtin
                     refine wpList_append_any _ rfl (.tmp 50) (.tmp 52) _ rfl w.heap.size 5 i0 _ 1 1 Tryz.underlying66 hi0 hz0 hz1 hz2 rfl (by omega) u7 o (bs (dg 8 o N)) rfl
                       (hown.alloc _) (wr.heap.size + 1) (some ⟨wr.heap.size, 0, none⟩) 1 1 [.int .u8 (last : Int)] rfl (Reads.new wr _ _) (one_int _ _) (by unfold maxLen; omega) (by omega) (by simp; omega) ?_
                     intro v2 w2 hown2 hg2' hat2)
        rw [Exit.noGoto_ret]
        go_ret
        have hN := HN.out
        subst hN
        obtain ⟨h1, h2⟩ := end_odd wd' l HL.out k o held last E1.out hh h0 ho.out hlast.out
        have hb := bs_snoc [] (dg 8 o (pk wd' l)) last last rfl
        simp only [List.nil_append] at hb
        rw [hb, h2, ← h1] at hown2
        exact ⟨v2, rfl, hown2, below_app hbl hown hsz2 hg2'⟩
      · obtain rfl : held = 0 := by omega
        go_wp2_with fail
        rw [Exit.noGoto_ret]
        go_ret
        have hN := HN.out
        subst hN
        obtain ⟨h1, h2⟩ := end_even wd' l k o E1.out ho.out
        rw [h2, ← h1] at hown
        exact ⟨u7, rfl, hown, hbl⟩
    | succ g =>
      have hlt : k < n := by omega
      have hrk := hr.below hbl
      obtain ⟨ad, u, rfl, _, hu, hc⟩ := hrk.at_ hlt
      obtain ⟨v0, hb, rfl⟩ := us_at hu
      have HB := Lib.hid hb
      clear hb hu
      have hl256 : last < 256 := by rw [hlast.out]; exact small_mod _ _ hh
      have hkw : (k + 1) * wd' ≤ n * wd' := Nat.mul_le_mul_right _ (by omega)
      go_wp2_with fail
      go_loopg [7, 8, 9, 11, 12, 13] wd' (fun g2 s7 s8 s9 s11 s12 s13 wy => ∃ o held last v : Nat, s12 = .int .i64 (g2 : Int) ∧ s9 = .int .i64 (held : Int) ∧ s8 = .int .u8 (last : Int) ∧ s11 = .int .u64 (v : Int) ∧ held < 8 ∧ g2 ≤ wd' ∧ Hid (8 * o + held + g2 = (k + 1) * wd') ∧
        Hid (last = N / 2 ^ (8 * o) % 2 ^ held) ∧ Hid (v = N / 2 ^ (8 * o) / 2 ^ held % 2 ^ g2) ∧ wy.ownsRow w.heap.size 5 1 s7 o (bs (dg 8 o N)) ∧ Below w.heap.size w wy)
      case atStart =>
        refine ⟨o, held, last, v0, rfl, rfl, rfl, rfl, hh, Nat.le_refl _, Lib.hid ?_, hlast, Lib.hid ?_, hown, hbl⟩
        · have := ho.out; rw [Nat.add_mul]; omega
        · rw [HN.out]; exact digit_at wd' l HL.out k v0 o held HB.out ho.out
      case round =>
        clear hown hlast ho hh hbl hl256
        clear o held last
        obtain ⟨o, held, last, v, rfl, rfl, rfl, rfl, hh, hg2, ho, hlast, hv, hown, hbl⟩ := hrel
        have hl256 : last < 256 := by rw [hlast.out]; exact small_mod _ _ hh
        have hv64 : v < 18446744073709551616 := by rw [hv.out]; exact word_mod _ _ (by omega)
        by_cases hc2 : gk < 8 - held
        · go_wp2_with fail
          go_roundg g
          case measure => omega
          case rel =>
            have hlay := (lay_step (N / 2 ^ (8 * o)) held v gk hh hv.out).1 hc2
            rw [← hlast.out] at hlay
            refine ⟨k + 1, o, held + gk, last ||| (v * 2 ^ held % 256), by omega, by go_num, by go_num, congrArg (Value.int .u8) (lay_val last v held hl256), by omega, Lib.hid (by have := ho.out; omega), Lib.hid hlay, hown, hbl⟩
        · have hsz2 := hbl.size
          have hob : o ≤ 524288 := by have := ho.out; omega
          go_wp2_with (at_builtin
                       refine wpList_append_any _ rfl (.tmp 37) (.tmp 39) _ rfl w.heap.size 5 i0 _ 1 1 Tryz.underlying66 hi0 hz0 hz1 hz2 rfl (by omega) u7 o (bs (dg 8 o N)) rfl
                         (hown.alloc _) (wr.heap.size + 1) (some ⟨wr.heap.size, 0, none⟩) 1 1 [.int .u8 (bits .or .u8 (last : Int) (IntKind.u64.wrap ((v : Int) * 2 ^ held) % 256))] rfl (Reads.new wr _ _) (one_int _ _) (by unfold maxLen; omega) (by omega) (by simp; omega) ?_
                       intro v2 w2 hown2 hg2' hat2)
          go_roundg (gk - (8 - held))
          case measure => omega
          case rel =>
            have hlay := (lay_step (N / 2 ^ (8 * o)) held v gk hh hv.out).2 (by omega)
            rw [← hlast.out] at hlay
            have hval := lay_val last v held hl256
            have hb := bs_snoc [] (dg 8 o N) (last ||| (v * 2 ^ held % 256)) _ hval
            simp only [List.nil_append] at hb
            rw [hb, hlay.1, ← dg_snoc] at hown2
            refine ⟨o + 1, 0, 0, v / 2 ^ (8 - held), by go_num, rfl, rfl, ?_, by omega, by omega, Lib.hid (by have := ho.out; omega), Lib.hid (by simp [Nat.mod_one]), Lib.hid ?_, hown2, below_app hbl hown hsz2 hg2'⟩
            · exact congrArg (Value.int .u64) (by simp)
            · rw [hlay.2, Nat.div_div_eq_div_mul, ← Nat.pow_add, Nat.pow_zero, Nat.div_one, Nat.mul_succ]
end Go.Proofs.YtpgdlmnhomnblaaGreatDoor
namespace Go.Proofs.YtpgdlmnhomnblaaGreatDoor
open Go.RowKit
set_option linter.unusedVariables false
set_option linter.unusedSimpArgs false
set_option maxRecDepth 100000
def packE (l : List Nat) (w : Int) : Nat := if szI (l.length : Int) w < 0 then 1 else if w < (wd l : Int) then 5 else 0
def packS (l : List Nat) (w : Int) : List Nat := if packE l w = 0 then packB w.toNat l else []
set_option maxHeartbeats 1000000 in
theorem pack_any (A : Option Addr) (n c : Nat) (l : List Nat) (wi : Int) (w : World) (hr : Reads w w.heap.size 1 A n (us l)) (hl : ∀ a ∈ l, a < 18446744073709551616) (hn : n ≤ 140737488355328) (hw : -9223372036854775808 ≤ wi ∧ wi ≤ 9223372036854775807) :
    Calls Tryz.prog 122 #[.slice A n c, .int .i64 wi] w (NewE w (packS l wi) (packE l wi)) := by
  have e1 : l.length = n := by have := hr.1; rw [us_length] at this; omega
  by_cases h1 : 0 ≤ (n : Int) ∧ (n : Int) ≤ 65536 ∧ 0 ≤ wi ∧ wi ≤ 64
  · have hz : szI (n : Int) wi = (sz n wi.toNat : Int) := by unfold szI; rw [if_pos h1]; simp
    obtain ⟨_, hn6, h3, h4⟩ := h1
    obtain ⟨wN, rfl⟩ := Int.eq_ofNat_of_zero_le h3
    simp only [Int.toNat_natCast] at hz
    by_cases h2 : wN < wd l
    · have hE : packE l (wN : Int) = 5 := by unfold packE; rw [e1, hz, if_neg (by omega), if_pos (by omega)]
      have hS : packS l (wN : Int) = [] := by unfold packS; rw [if_neg (by omega)]
      have H := Lib.hid (And.intro hE hS); clear hE hS
      have E1 := Lib.hid e1; clear e1
      have HZ := Lib.hid hz; clear hz
      have h2' : decide ((wN : Int) < (wd l : Int)) = true := by simp; omega
      go_enter Tryz.func122, Tryz.ntmps122
      go_wp2_with (first
        | (go_at_call 172; refine (size_any (n : Int) (wN : Int) _ (by omega) (by omega)).mono ?_; rintro e w' ⟨rfl, rfl⟩; rw [HZ.out])
        | (go_at_call 121; refine (width_any A n c l _ hr hl hn).mono ?_; rintro e w' ⟨rfl, rfl⟩))
      go_ret2
      obtain ⟨h5, h6⟩ := H.out
      rw [h5, h6]
      exact ⟨.slice none 0 0, rfl, own_nil _ _ _ _, Below.refl _ _⟩
    · have hE : packE l (wN : Int) = 0 := by unfold packE; rw [e1, hz, if_neg (by omega), if_neg (by omega)]
      have hS : packS l (wN : Int) = packB wN l := by unfold packS; rw [if_pos hE]; simp
      have hlen : (packB wN l).length = sz n wN := by rw [packB_length, e1]
      have H := Lib.hid (And.intro hE (And.intro hS hlen)); clear hE hS hlen
      have hlw : ∀ a ∈ l, a < 2 ^ wN := (wd_le l wN).1 (by omega)
      have E1 := Lib.hid e1; clear e1
      have HZ := Lib.hid hz; clear hz
      have h2' : decide ((wN : Int) < (wd l : Int)) = false := by simp; omega
      go_enter Tryz.func122, Tryz.ntmps122
      go_wp2_with (first
        | (go_at_call 172; refine (size_any (n : Int) (wN : Int) _ (by omega) (by omega)).mono ?_; rintro e w' ⟨rfl, rfl⟩; rw [HZ.out])
        | (go_at_call 121; refine (width_any A n c l _ hr hl hn).mono ?_; rintro e w' ⟨rfl, rfl⟩)
        | (go_at_call 173; refine (packed_any A n c l wN _ hr hlw (by omega) (by omega)).mono ?_; rintro e w' ⟨v, rfl, hown, hb⟩))
      go_ret2
      obtain ⟨h5, h6, h7⟩ := H.out
      rw [h5, h6]
      exact ⟨v, rfl, by rw [h7]; exact hown, hb⟩
  · have hz : szI (n : Int) wi = -1 := by unfold szI; rw [if_neg h1]
    have hE : packE l wi = 1 := by unfold packE; rw [e1, hz, if_pos (by omega)]
    have hS : packS l wi = [] := by unfold packS; rw [if_neg (by omega)]
    have H := Lib.hid (And.intro hE hS); clear hE hS
    have E1 := Lib.hid e1; clear e1
    have HZ := Lib.hid hz; clear hz
    clear h1
    go_enter Tryz.func122, Tryz.ntmps122
    go_wp2_with (go_at_call 172; refine (size_any (n : Int) wi _ (by omega) hw).mono ?_; rintro e w' ⟨rfl, rfl⟩; rw [HZ.out])
    go_ret2
    obtain ⟨h5, h6⟩ := H.out
    rw [h5, h6]
    exact ⟨.slice none 0 0, rfl, own_nil _ _ _ _, Below.refl _ _⟩
end Go.Proofs.YtpgdlmnhomnblaaGreatDoor
namespace Go.Proofs.YtpgdlmnhomnblaaGreatDoor
open Go.RowKit
set_option linter.unusedVariables false
set_option linter.unusedSimpArgs false
set_option maxRecDepth 100000
theorem packE_ok (l : List Nat) (w : Nat) (hl : l.length ≤ 65536) (hw : w ≤ 64) (h : wd l ≤ w) : packE l (w : Int) = 0 ∧ packS l (w : Int) = packB w l := by
  have hz : szI (l.length : Int) (w : Int) = (sz l.length w : Int) := by unfold szI; rw [if_pos (by omega)]; simp
  have hE : packE l (w : Int) = 0 := by unfold packE; rw [hz, if_neg (by omega), if_neg (by omega)]
  exact ⟨hE, by unfold packS; rw [if_pos hE]; simp⟩
theorem pack_ok (A : Option Addr) (n c : Nat) (l : List Nat) (kI : Int) (k : Nat) (hkI : kI = (k : Int)) (w : World) (hr : Reads w w.heap.size 1 A n (us l)) (hl : ∀ a ∈ l, a < 18446744073709551616) (hn : n ≤ 65536) (hk : k ≤ 64) (hd : wd l ≤ k) :
    Calls Tryz.prog 122 #[.slice A n c, .int .i64 kI] w (NewE w (packB k l) 0) := by
  subst hkI
  have e1 : l.length = n := by have := hr.1; rw [us_length] at this; omega
  have h := pack_any A n c l (k : Int) w hr hl (by omega) (by omega)
  obtain ⟨h1, h2⟩ := packE_ok l k (by omega) hk hd
  rwa [h1, h2] at h
end Go.Proofs.YtpgdlmnhomnblaaGreatDoor
namespace Go.Proofs.YtpgdlmnhomnblaaGreatDoor
open Go.RowKit
set_option linter.unusedVariables false
set_option linter.unusedSimpArgs false
set_option maxRecDepth 100000
theorem steps_n (A : Option Addr) (n c : Nat) (l : List Int) (w : World) (hr : Reads w w.heap.size 1 A n (zs l)) (hn : n ≤ 17592186044416) :
    Calls Tryz.prog 119 #[.slice A n c] w fun e w' => ∃ A' c', e = .returned (.slice A' n c') ∧ n ≤ c' ∧ c' ≤ maxLen ∧ Reads w' w'.heap.size 1 A' n (zs (stp 0 l)) ∧ Below w.heap.size w w' := by
  have e1 : l.length = n := by have := hr.1; rw [zs_length] at this; omega
  refine (steps_any A n c l w hr hn).mono ?_
  intro e w' h
  obtain ⟨A', c', rfl, h1, h2, h3, h4⟩ := h.opened
  rw [stp_length, e1] at h1 h3 ⊢
  exact ⟨A', c', rfl, h1, h2, h3, h4⟩
set_option maxHeartbeats 1000000 in
theorem dlPut_nil (A : Option Addr) (c : Nat) (w : World) (hr : Reads w w.heap.size 1 A 0 (zs [])) :
    Calls Tryz.prog 79 #[.slice A 0 c] w (NewE w (dl []) 0) := by
  go_enter Tryz.func79, Tryz.ntmps79
  go_wp2_with fail
  refine (steps_n A 0 c [] w hr (by omega)).mono ?_
  rintro e w1 ⟨A1, c1, rfl, hc1, hm1, r1, hb1⟩
  go_wp2_with fail
  refine (concat_any (some ⟨w1.heap.size, 0, none⟩) 3 3 [[], [], []] _ (three_parts w1 _ _ _ _ [] [] [] (IsB.nil_ w1) (IsB.nil_ w1) (IsB.nil_ w1)) rfl (by omega) (by simp)).mono ?_
  rintro e w2 ⟨v, rfl, hown, hb⟩
  go_wp2_with fail
  go_ret2
  have hb2 : Below w.heap.size w (w1.alloc (.cells #[.slice none 0 0, .slice none 0 0, .slice none 0 0] 66)) := hb1.alloc hb1.size _
  exact ⟨v, rfl, own_base hown hb2.size, hb2.trans (hb.mono hb2.size)⟩
set_option maxHeartbeats 1000000 in
theorem dlPut_one (A : Option Addr) (c : Nat) (z : Int) (w : World) (hr : Reads w w.heap.size 1 A 1 (zs [z])) (hz : In64 z) :
    Calls Tryz.prog 79 #[.slice A 1 c] w (NewE w (dl [z]) 0) := by
  have hs : stp 0 [z] = [z] := by simp only [stp]; rw [show z - 0 = z by omega, w64_id hz]
  have hzg := (zg_int hz).2
  have hvl := vb_length (zg z)
  go_enter Tryz.func79, Tryz.ntmps79
  go_wp2_with fail
  refine (steps_n A 1 c [z] w hr (by omega)).mono ?_
  rintro e w1 ⟨A1, c1, rfl, hc1, hm1, r1, hb1⟩
  rw [hs] at r1
  obtain ⟨ad, u, rfl, _, hu, hc⟩ := r1.at_ (show 0 < 1 by omega)
  have hu' : u = .int .i64 z := by simpa [zs] using hu.symm
  subst hu'
  have hc0 : w1.cell? ad = some (.int .i64 z) := by simpa [Addr.add] using hc
  clear hu hs hc
  go_wp2_with fail
  refine (zigN_any z w1 hz).mono ?_
  rintro e w' ⟨rfl, rfl⟩
  go_wp2_with fail
  refine (putVar_any none 0 0 (zg z) [] w1 hzg Reads.none_ (by simp) (by omega)).mono ?_
  intro e2 w2 hN2
  obtain ⟨A2, c2, rfl, _, hr2, hb2⟩ := hN2.opened
  rw [Nat.zero_add, List.nil_append] at hr2
  simp only [Nat.zero_add]
  have hb02 := hb1.trans (hb2.mono hb1.size)
  clear hN2
  go_wp2_with fail
  refine (concat_any (some ⟨w2.heap.size, 0, none⟩) 3 3 [vb (zg z), [], []] _ (three_parts w2 _ _ _ _ (vb (zg z)) [] [] ⟨A2, c2, rfl, hr2⟩ (IsB.nil_ w2) (IsB.nil_ w2)) rfl (by omega) (by simp; omega)).mono ?_
  rintro e w3 ⟨v, rfl, hown, hb⟩
  go_wp2_with fail
  go_ret2
  have hb3 : Below w.heap.size w (w2.alloc (.cells #[.slice A2 (vb (zg z)).length c2, .slice none 0 0, .slice none 0 0] 66)) := hb02.alloc hb02.size _
  have hd : dl [z] = [vb (zg z), [], []].flatten := by simp [dl, dl1, dl2, dl3]
  rw [hd]
  exact ⟨v, rfl, own_base hown hb3.size, hb3.trans (hb.mono hb3.size)⟩
theorem dl_two (z y : Int) (r : List Int) : dl (z :: y :: r) = [vb (zg z), [wd (zb (z :: y :: r))], packB (wd (zb (z :: y :: r))) (zb (z :: y :: r))].flatten := by
  simp [dl, dl1, dl2, dl3]
set_option maxHeartbeats 2000000 in
theorem dlPut_two (A : Option Addr) (n c : Nat) (z y : Int) (r : List Int) (w : World) (hr : Reads w w.heap.size 1 A n (zs (z :: y :: r))) (hl : ∀ x ∈ z :: y :: r, In64 x) (hn : n ≤ 65536) :
    Calls Tryz.prog 79 #[.slice A n c] w (NewE w (dl (z :: y :: r)) 0) := by
  have e1 : n = r.length + 2 := by have := hr.1; rw [zs_length] at this; simp at this; omega
  have hz := hl z (by simp)
  have hzg := (zg_int hz).2
  have hvl := vb_length (zg z)
  have hs0 : (zs (stp 0 (z :: y :: r)))[0]? = some (.int .i64 z) := by simp only [stp]; rw [show z - 0 = z by omega, w64_id hz]; simp [zs]
  have hdl := (dl_parts (z :: y :: r)).2.2 (by simp; omega)
  have hdt : dl3 (z :: y :: r) = packB (wd (zb (z :: y :: r))) (zb (z :: y :: r)) := by simp [dl3]
  have hzl : (zb (z :: y :: r)).length = n - 1 := by rw [zb_length]; simp; omega
  have hin := stp_in (z :: y :: r) 0
  have hw64 := wd_zb (z :: y :: r)
  have hzlt := zb_lt (z :: y :: r)
  have HD := Lib.hid (dl_two z y r)
  have hzb : ((stp 0 (z :: y :: r)).drop 1).map zg = zb (z :: y :: r) := rfl
  rw [hdt] at hdl
  obtain ⟨S, hS⟩ : ∃ S, S = stp 0 (z :: y :: r) := ⟨_, rfl⟩
  obtain ⟨Z, hZ⟩ : ∃ Z, Z = zb (z :: y :: r) := ⟨_, rfl⟩
  obtain ⟨K, hK⟩ : ∃ K, K = wd Z := ⟨_, rfl⟩
  have hst := steps_n A n c (z :: y :: r) w hr (by omega)
  rw [← hS] at hst hs0 hzb hin
  rw [← hZ] at HD hzl hzb hzlt hdl hw64
  rw [← hK] at HD hdl hw64
  have HK := Lib.hid hK; have HZ := Lib.hid hzb; have HIN := Lib.hid hin; have HLT := Lib.hid hzlt; have HST := Lib.hid hst; have HZL := Lib.hid hzl
  have q1 : ((n : Int) == 1) = false := by simp; omega
  have q0 : ((n : Int) == 0) = false := by simp; omega
  have h2n : 2 ≤ n := by omega
  clear hK hzb hin hzlt hst hzl hS hZ hdt e1 hl hr
  go_enter Tryz.func79, Tryz.ntmps79
  go_wp2_with fail
  refine HST.out.mono ?_
  rintro e w1 ⟨A1, c1, rfl, hc1, hm1, r1, hb1⟩
  have hcut := r1.cut (k := 1) (cap := c1) (by omega) hc1
  obtain ⟨ad, u, rfl, _, hu, hc⟩ := r1.at_ (show 0 < n by omega)
  have hu' : u = .int .i64 z := by rw [hs0] at hu; exact (Option.some.inj hu).symm
  subst hu'
  have hne : ¬ c1 = 1 := by omega
  rw [if_neg hne] at hcut
  simp only [Nat.one_mul] at hcut
  rw [show (zs S).drop 1 = zs (S.drop 1) by simp [zs]] at hcut
  have hcc : ∀ w', Reads w' w'.heap.size 1 (some ad) n (zs S) → w'.cell? ad = some (.int .i64 z) := fun w' h => by
    obtain ⟨ad', e, _, hcell⟩ := h.2 (by omega)
    injection e with e
    subst e
    simpa [Addr.add] using hcell 0 _ hs0
  have HCC := Lib.hid hcc
  clear hu hs0 hc hcc
  go_wp2_with fail
  refine (zigs_any _ (n - 1) _ (S.drop 1) w1 hcut (fun x hx => HIN.out x (List.mem_of_mem_drop hx)) (by omega)).mono ?_
  rw [HZ.out]
  rintro e w2 ⟨v2, rfl, hown2, hb2⟩
  obtain ⟨A2, c2, rfl, hc2, _, r2⟩ := own_slice hown2
  go_wp2_with fail
  refine (width_any A2 (n - 1) c2 Z w2 r2 HLT.out (by omega)).mono ?_
  rintro e w' ⟨rfl, rfl⟩
  rw [← HK.out]
  go_wp2_with fail
  refine (pack_ok A2 (n - 1) c2 Z _ K rfl w2 r2 HLT.out (by omega) (by omega) (by rw [HK.out]; exact Nat.le_refl _)).mono ?_
  rintro e w3 ⟨v3, rfl, hown3, hb3⟩
  obtain ⟨A3, c3, rfl, _, _, r3⟩ := own_slice hown3
  have r13 := (r1.next hb2).next hb3
  have hb03 := (hb1.trans (hb2.mono hb1.size)).trans (hb3.mono (hb1.trans (hb2.mono hb1.size)).size)
  have r14 : Reads (w3.alloc (.cells #[.int .u8 (K : Int)] 5)) (w3.alloc (.cells #[.int .u8 (K : Int)] 5)).heap.size 1 (some ad) n (zs S) := r13.next ((Below.refl _ _).alloc (Nat.le_refl _) _)
  have hcw := HCC.out _ r14
  have hb04 : Below w.heap.size w (w3.alloc (.cells #[.int .u8 (K : Int)] 5)) := hb03.alloc hb03.size _
  have i2 : IsB (w3.alloc (.cells #[.int .u8 (K : Int)] 5)) (.slice (some ⟨w3.heap.size, 0, none⟩) 1 1) [K] := ⟨_, 1, rfl, reads_blk (Blk.new w3 _ _) _ 1 _ (by simp) rfl rfl⟩
  have i3 : IsB (w3.alloc (.cells #[.int .u8 (K : Int)] 5)) (.slice A3 (packB K Z).length c3) (packB K Z) := ⟨A3, c3, rfl, r3.next ((Below.refl _ _).alloc (Nat.le_refl _) _)⟩
  clear r13 r14 HCC hb03 r3 hown3 hown2 r2 hb2 hb3 r1 hcut
  go_wp2_with fail
  refine (zigN_any z _ hz).mono ?_
  rintro e w' ⟨rfl, rfl⟩
  go_wp2_with fail
  refine (putVar_any none 0 0 (zg z) [] _ hzg Reads.none_ (by simp) (by omega)).mono ?_
  intro e5 w5 hN5
  obtain ⟨A5, c5, rfl, _, hr5, hb5⟩ := hN5.opened
  rw [Nat.zero_add, List.nil_append] at hr5
  simp only [Nat.zero_add]
  have hb05 := hb04.trans (hb5.mono hb04.size)
  have j2 := i2.next hb5
  have j3 := i3.next hb5
  clear hN5 i2 i3 hcw
  go_wp2_with fail
  refine (concat_any (some ⟨w5.heap.size, 0, none⟩) 3 3 [vb (zg z), [K], packB K Z] _ (three_parts w5 _ _ _ _ (vb (zg z)) [K] (packB K Z) ⟨A5, c5, rfl, hr5⟩ j2 j3) rfl (by omega) (by simp; omega)).mono ?_
  rintro e w6 ⟨v, rfl, hown, hb⟩
  go_wp2_with fail
  go_ret2
  have hb6 := hb05.alloc hb05.size (.cells #[.slice A5 (vb (zg z)).length c5, .slice (some ⟨w3.heap.size, 0, none⟩) 1 1, .slice A3 (packB K Z).length c3] 66)
  rw [HD.out]
  exact ⟨v, rfl, own_base hown hb6.size, hb6.trans (hb.mono hb6.size)⟩
theorem dlPut_any (A : Option Addr) (n c : Nat) (l : List Int) (w : World) (hr : Reads w w.heap.size 1 A n (zs l)) (hl : ∀ x ∈ l, In64 x) (hn : n ≤ 65536) :
    Calls Tryz.prog 79 #[.slice A n c] w (NewE w (dl l) 0) := by
  have e1 : n = l.length := by have := hr.1; rw [zs_length] at this; omega
  match l, hr, hl, e1 with
  | [], hr, _, e1 => subst e1; exact dlPut_nil A c w hr
  | [z], hr, hl, e1 => subst e1; exact dlPut_one A c z w hr (hl z (by simp))
  | z :: y :: r, hr, hl, _ => exact dlPut_two A n c z y r w hr hl hn
end Go.Proofs.YtpgdlmnhomnblaaGreatDoor
