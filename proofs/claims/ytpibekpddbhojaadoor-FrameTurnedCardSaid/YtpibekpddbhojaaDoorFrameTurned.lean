/- The walk of FrameTurned: a frame of which a bit is turned isn't read as another one of the same length. -/
import Derived.Test.YtpibekpddbhojaaDoorAwake04
import Derived.Test.YtpibekpddbhojaaDoorByteRow
import Derived.Test.YtpibekpddbhojaaDoorPick
namespace Go.Proofs.YtpibekpddbhojaaDoor
open Go.RowKit
set_option linter.unusedVariables false
set_option maxRecDepth 100000

theorem turned_big (A : Option Addr) (n c : Nat) (at_ : Int) (w : World) (hm : Met w) (h : 2000 < n) :
    Calls Tryd.prog 6 #[.slice A n c, .int .i64 at_] w fun e w' => e = .returned (.bool true) ∧ Below w.heap.size w w' := by
  go_enter Tryd.func6, Tryd.ntmps6
  go_wp2_with fail
  refine (awake_any w hm).mono ?_
  rintro e w1 ⟨rfl, hb⟩
  go_wp2_with fail
  go_ret
  exact ⟨rfl, hb⟩
set_option maxHeartbeats 1000000 in
theorem turned_small (A : Option Addr) (n c : Nat) (at_ : Int) (p : List Nat) (w : World) (hm : Met w) (hr : Reads w w.heap.size 1 A n (bs p)) (hp : ∀ b ∈ p, b < 256) (h1 : n ≤ 2000)
    (hk : -9223372036854775808 ≤ at_ ∧ at_ ≤ 9223372036854775807) :
    Calls Tryd.prog 6 #[.slice A n c, .int .i64 at_] w fun e w' => e = .returned (.bool true) ∧ Below w.heap.size w w' := by
  have HP := Lib.hid hp; clear hp
  have e1 := fz_len hr
  have E1 := Lib.hid e1
  have hfl := fr_length p
  rw [e1] at hfl
  have HFL := Lib.hid hfl; clear hfl
  clear e1
  go_enter Tryd.func6, Tryd.ntmps6
  go_wp2_with fail
  refine (put_any A n c p w hr HP.out (by omega)).mono ?_
  rintro e w1 ⟨v1, rfl, hown1, hb1⟩
  rw [HFL.out] at hown1
  obtain ⟨gb, cap, cur, rfl, hgb, hcap, hB0, htk⟩ := own_blk hown1 (by omega)
  have HT0 := Lib.hid htk
  clear htk hown1
  obtain ⟨m, hmd⟩ : ∃ m, 8 + n = m := ⟨_, rfl⟩
  rw [hmd] at hcap HT0 HFL ⊢
  have h8m : 8 ≤ m := by omega
  have hm2 : m ≤ 2008 := by omega
  have HM := Lib.hid hmd; clear hmd
  have hpick := pick_any at_ (8 * m) w1 hk.1 hk.2 (by omega) (by omega)
  rw [show ((8 * m : Nat) : Int) = 8 * (m : Int) by omega] at hpick
  go_wp2_with fail
  refine hpick.mono ?_
  clear hpick
  rintro e w' ⟨k, hkn, rfl, rfl⟩
  obtain ⟨k8, hk8⟩ : ∃ k8 : Nat, k8 = k % 8 := ⟨_, rfl⟩
  obtain ⟨kq, hkq⟩ : ∃ kq : Nat, kq = k / 8 := ⟨_, rfl⟩
  have r8 : (k : Int) % 8 = (k8 : Int) := by omega
  have rq : (k : Int) / 8 = (kq : Int) := by omega
  have hk8l : k8 < 8 := by omega
  have hkql : kq < m := by omega
  clear hk8 hkq
  go_wp2_with fail
  go_loopg [8, 9] k8 (fun g s8 s9 wx => ∃ i X : Nat, i + g = k8 ∧ s9 = .int .i64 (i : Int) ∧ s8 = .int .u8 (X : Int) ∧ Hid (X = 2 ^ i) ∧ wx = w1)
  case atStart => exact ⟨0, 1, by omega, rfl, by first | rfl | go_num, Lib.hid (by simp), rfl⟩
  case round =>
    obtain ⟨i, X, hig, rfl, rfl, hX, rfl⟩ := hrel
    cases gk with
    | succ g =>
      have hi : i < k8 := by omega
      have hi2 : (i : Int) < (k8 : Int) := by omega
      have hXl : X ≤ 64 := by rw [hX.out]; exact show 2 ^ i ≤ 2 ^ 6 from Nat.pow_le_pow_right (by omega) (by omega)
      go_wp2_with fail
      go_roundg g
      case measure => omega
      case rel => exact ⟨i + 1, X * 2, by omega, by go_num, by first | rfl | go_num, Lib.hid (by rw [hX.out, Nat.pow_succ]), rfl⟩
    | zero =>
      obtain rfl : i = k8 := by omega
      clear hig
      have hXl : X ≤ 128 := by rw [hX.out]; exact show 2 ^ i ≤ 2 ^ 7 from Nat.pow_le_pow_right (by omega) (by omega)
      have hX0 : X ≠ 0 := by rw [hX.out]; exact Nat.ne_of_gt (Nat.two_pow_pos _)
      have hkl : kq < (fr p).length := by rw [HFL.out]; exact hkql
      obtain ⟨y, hy⟩ : ∃ y, (fr p)[kq] = y := ⟨_, rfl⟩
      have hy256 : y < 256 := by rw [← hy]; exact fr_byte p HP.out _ (List.getElem_mem hkl)
      have hyo : (fr p)[kq]? = some y := by rw [List.getElem?_eq_getElem hkl, hy]
      have hturn := getS_turned p kq X (by rw [E1.out]; omega) HP.out hkl hX0 (by omega)
      rw [hy, HFL.out] at hturn
      have hcs := getS_cases ((fr p).set kq (y ^^^ X))
      have hcell : wr.cell? ⟨gb, kq, none⟩ = some (.int .u8 (y : Int)) := by rw [hB0.cell]; exact cell_take cur m kq _ y HT0.out hkql hyo
      have hfz := hB0.frozen kq
      have hx : bits .xor .u8 (y : Int) (X : Int) = ((y ^^^ X : Nat) : Int) := u8_xor_nat y X hy256 (by omega)
      have hz256 : y ^^^ X < 256 := Nat.xor_lt_two_pow (n := 8) hy256 (by omega)
      obtain ⟨z, hz⟩ : ∃ z : Nat, y ^^^ X = z := ⟨_, rfl⟩
      rw [hz] at hx hturn hcs hz256
      have hB2 := hB0.set_ kq (.int .u8 (z : Int))
      have hT2 := take_set cur m kq _ z HT0.out HFL.out hkql
      have hb2 := hb1.setCell (p := ⟨gb, kq, none⟩) hgb (.int .u8 (z : Int))
      have hbz : ∀ b ∈ (fr p).set kq z, b < 256 := by
        intro b hb
        rcases List.mem_or_eq_of_mem_set hb with h | h
        · exact fr_byte p HP.out b h
        · subst h; exact hz256
      have hlz : ((fr p).set kq z).length = m := by rw [List.length_set, HFL.out]
      have hrx : Reads (wr.setCell ⟨gb, kq, none⟩ (.int .u8 (z : Int))) (wr.setCell ⟨gb, kq, none⟩ (.int .u8 (z : Int))).heap.size 1 (some ⟨gb, 0, none⟩) m (bs ((fr p).set kq z)) := reads_blk hB2 _ _ _ hB2.lt (by rw [bs_length, hlz]) hT2
      have hget := get_any (some ⟨gb, 0, none⟩) m cap _ _ (hm.next hb2) hrx hbz hcap (by omega)
      generalize getS ((fr p).set kq z) = G at hget hturn hcs
      obtain ⟨gp, gn, ge⟩ := G
      simp only at hturn hcs
      have HGET := Lib.hid hget
      have HB2 := Lib.hid hb2
      clear hget hb2 hB2 hT2 hbz hlz hrx hyo hz hy hkl
      by_cases hge0 : ge = 0
      case' pos =>
        subst hge0
        have hgn : gn ≠ m := by rcases hturn with h | h; exact absurd rfl h; exact h
        have hne : ((gn : Int) != (m : Int)) = true := by simp; omega
        have hne2 : ((gn : Int) == (m : Int)) = false := by simp; omega
      case' neg =>
        have hne : (ge != 0) = true := by simp [hge0]
        have hne2 : (ge == 0) = false := by simp [hge0]
      all_goals
        clear hturn hcs
        go_wp2_with fail
        refine HGET.out.mono ?_
        rintro e w3 ⟨A3, c3, rfl, _, hb3⟩
        have hb3 : Below w.heap.size w w3 := HB2.out.trans (hb3.mono HB2.out.size)
        go_wp2_with fail
        refine (awake_any w3 (hm.next hb3)).mono ?_
        rintro e w4 ⟨rfl, hb4⟩
        go_wp2_with fail
        go_ret
        exact ⟨rfl, hb3.trans (hb4.mono hb3.size)⟩
end Go.Proofs.YtpibekpddbhojaaDoor
