/- The walk of the statement DictTurn: in whatever order numbers stand, and however often, the list is the same. -/
import Derived.Test.YtppeagjklndidaaDcAwake
import Derived.Test.YtppeagjklndidaaSameZ
import Derived.Test.YtppeagjklndidaaPick
namespace Go.Proofs.Ytppeagjklndidaa
open Go.RowKit
set_option linter.unusedVariables false
set_option linter.unusedSimpArgs false
set_option maxRecDepth 100000

theorem turn_else (A : Option Addr) (n c : Nat) (d : Int) (w : World) (h : 200 < n) :
    Calls Try.prog 4 #[.slice A n c, .int .i64 d] w fun e w' => e = .returned (.bool true) ∧ Below w.heap.size w w' := by
  go_enter Try.func4, Try.ntmps4
  go_wp2_with fail
  refine (awake_any w).mono ?_
  rintro e w1 ⟨rfl, hb⟩
  go_wp2_with fail
  go_ret
  exact ⟨rfl, hb⟩
theorem rev_step {l : List Int} {j : Nat} {z : Int} (h : l[j]? = some z) : (l.drop j).reverse = (l.drop (j + 1)).reverse ++ [z] := by
  obtain ⟨hl, rfl⟩ := List.getElem?_eq_some_iff.1 h
  rw [List.drop_eq_getElem_cons hl, List.reverse_cons]
theorem lstD_turned (l : List Int) : lstD l.reverse = lstD l := lstD_same fun x => List.mem_reverse
theorem lstD_again (l : List Int) (y : Int) (h : y ∈ l) : lstD (l.reverse ++ [y]) = lstD l := lstD_same fun x => by
  rw [List.mem_append, List.mem_reverse, List.mem_singleton]
  constructor
  · rintro (h1 | rfl)
    · exact h1
    · exact h
  · exact .inl
set_option maxHeartbeats 1000000 in
theorem turn_main (A : Option Addr) (n c : Nat) (d : Int) (l : List Int) (w : World) (hr : Reads w w.heap.size 1 A n (zs l)) (hl : ∀ z ∈ l, In64 z) (hd : (Lit.int .i64 d).wf = true) (hn : n ≤ 200) :
    Calls Try.prog 4 #[.slice A n c, .int .i64 d] w fun e w' => e = .returned (.bool true) ∧ Below w.heap.size w w' := by
  obtain ⟨i1, hi1, hy0, hy1, hy2⟩ := info_parts info_i64
  have e1 : l.length = n := by have := hr.1; rw [zs_length] at this; omega
  have E1 := Lib.hid e1
  have d1 : decide ((200 : Int) < (n : Int)) = false := by simp; omega
  clear e1
  go_enter Try.func4, Try.ntmps4
  go_wp2_with fail
  go_loopw [5, 6] (fun s5 s6 wr => ∃ (i : Nat) (x : Int), i ≤ n ∧ x = (i : Int) - 1 ∧ s6 = .int .i64 x ∧ wr.ownsRow w.heap.size 2 1 s5 (n - i) (zs (l.drop i).reverse) ∧ Below w.heap.size w wr) (fun _ x _ => (intOf x + 1).toNat)
  case atStart =>
    refine ⟨n, (n : Int) - 1, Nat.le_refl _, rfl, rfl, ?_, Below.refl _ _⟩
    rw [List.drop_of_length_le (by rw [E1.out]; exact Nat.le_refl _), Nat.sub_self]
    exact own_nil _ _ _ _
  case round =>
    obtain ⟨i, x, hi, hx, rfl, hown, hb⟩ := hrel
    by_cases hge : 0 ≤ x
    · obtain ⟨j, rfl⟩ : ∃ j : Nat, x = (j : Int) := ⟨x.toNat, by omega⟩
      have hij : i = j + 1 := by omega
      subst hij
      have hjn : j < n := by omega
      obtain ⟨ad, u, rfl, _, hu, hc0⟩ := (hr.below hb).at_ hjn
      obtain ⟨z, hz, rfl⟩ := zs_at hu
      have HS := Lib.hid (rev_step hz)
      clear hu hz hx
      go_wp2_with (at_builtin
                   refine wpList_append_any _ rfl (.tmp 18) (.tmp 23) _ rfl w.heap.size 2 i1 _ 1 8 Try.underlying22 hi1 hy0 hy1 hy2 rfl (by omega) u5 (n - (j + 1)) (zs (l.drop (j + 1)).reverse) rfl
                     (hown.alloc _) (wr.heap.size + 1) (some ⟨wr.heap.size, 0, none⟩) 1 1 [.int .i64 z] rfl (Reads.new wr _ _) (one_int _ _) (by unfold maxLen; omega) (by omega) (by simp; have := hb.size; omega) ?_
                   intro v4 w4 hown4 hg4 hat4)
      go_round
      case rel =>
        refine ⟨j, (j : Int) - 1, by omega, rfl, by go_num, ?_, below_app hb hown hb.size hg4⟩
        rw [HS.out, ← zs_snoc, show n - j = n - (j + 1) + 1 by omega]
        exact hown4
      case measure => simp [intOf]
    · obtain rfl : i = 0 := by omega
      obtain rfl : x = -1 := by omega
      clear hx hge
      rw [List.drop_zero, Nat.sub_zero] at hown
      by_cases h0 : 0 < n
      case' pos =>
        have hp1 : 1 ≤ n := by omega
        unfold Lit.wf at hd
        have hd1 : -9223372036854775808 ≤ d ∧ d ≤ 9223372036854775807 := by simpa [IntKind.min, IntKind.max, IntKind.signed, IntKind.bits] using hd
        obtain ⟨hd2, hd3⟩ := hd1
        clear hd
        go_wp2_with fail
        refine (pick_any d n wr hd2 hd3 hp1 (by omega)).mono ?_
        rintro e w' ⟨p, hp, rfl, rfl⟩
        obtain ⟨ad, u, rfl, _, hu, hc0⟩ := (hr.below hb).at_ hp
        obtain ⟨z, hz, rfl⟩ := zs_at hu
        have hzm := List.mem_of_getElem? hz
        have HM := Lib.hid (lstD_again l z hzm)
        have HI : Hid (∀ x ∈ l.reverse ++ [z], In64 x) := Lib.hid (by
          intro x hx
          rcases List.mem_append.1 hx with hx | hx
          · exact hl x (List.mem_reverse.1 hx)
          · rw [List.mem_singleton] at hx; exact hx ▸ hl z hzm)
        clear hu hz hzm
        go_wp2_with (at_builtin
                     refine wpList_append_any _ rfl (.tmp 28) (.tmp 36) _ rfl w.heap.size 2 i1 _ 1 8 Try.underlying22 hi1 hy0 hy1 hy2 rfl (by omega) u5 n (zs l.reverse) rfl
                       (hown.alloc _) (wr.heap.size + 1) (some ⟨wr.heap.size, 0, none⟩) 1 1 [.int .i64 z] rfl (Reads.new wr _ _) (one_int _ _) (by unfold maxLen; omega) (by omega) (by simp; have := hb.size; omega) ?_
                     intro vm wz hownm hgm hatm)
        have hbz := below_app hb hown hb.size hgm
        rw [zs_snoc] at hownm
        obtain ⟨m, hm⟩ : ∃ m, m = l.reverse ++ [z] := ⟨_, rfl⟩
        rw [← hm] at hownm HM HI
        obtain ⟨nm, hnm⟩ : ∃ nm, nm = n + 1 := ⟨_, rfl⟩
        rw [← hnm] at hownm
        have hnm2 : nm ≤ 201 := by omega
        obtain ⟨aA, haA⟩ : ∃ x, x = (some ad : Option Addr) := ⟨_, rfl⟩
        rw [← haA] at hr ⊢
        clear hm hnm haA hown hgm hatm hb
      case' neg =>
        go_wp2_with fail
        have HM := Lib.hid (lstD_turned l)
        have HI : Hid (∀ x ∈ l.reverse, In64 x) := Lib.hid fun x hx => hl x (List.mem_reverse.1 hx)
        have hbz := hb
        obtain ⟨m, hm⟩ : ∃ m, m = l.reverse := ⟨_, rfl⟩
        have hownm := hown
        rw [← hm] at hownm HM HI
        obtain ⟨nm, hnm⟩ : ∃ nm, nm = n := ⟨_, rfl⟩
        have hnm2 : nm ≤ 201 := by omega
        rw [← hnm] at hownm
        clear hm hnm hown hb
      all_goals
        obtain ⟨Am, cm, rfl, _, _, rM⟩ := own_slice hownm
        clear hownm
        have rL := hr.next hbz
        have HR := Lib.hid (lstD_of_rise (lstD_rise l))
        have hlen := lstD_length l
        rw [E1.out] at hlen
        obtain ⟨L, hL⟩ : ∃ L, L = lstD l := ⟨_, rfl⟩
        obtain ⟨N, hN⟩ : ∃ N, N = L.length := ⟨_, rfl⟩
        have hin : ∀ z ∈ L, In64 z := by rw [hL]; exact lstD_in hl
        have cl := fun (AA : Option Addr) (W : World) (h : Reads W W.heap.size 1 AA n (zs l)) => list_any AA n c l W h hl (by omega)
        have cm := fun (W : World) (h : Reads W W.heap.size 1 Am nm (zs m)) => list_any Am nm cm m W h HI.out (by omega)
        have cL := fun (AA : Option Addr) (cc : Nat) (W : World) (h : Reads W W.heap.size 1 AA N (zs L)) => list_any AA N cc L W h hin (by rw [hL] at hN; omega)
        rw [← hL] at cl HM hlen HR
        rw [HR.out] at cL
        rw [HM.out] at cm
        rw [← hN] at cl cm cL hlen
        have CL := Lib.hid cl; have CM := Lib.hid cm; have C2 := Lib.hid cL
        clear cl cm cL hL hN hin HM HR
        refine (CL.out _ _ rL).mono ?_
        rintro e wa ⟨va, rfl, howna, hba⟩
        obtain ⟨Aa, ca, rfl, _, _, ra⟩ := own_slice howna
        have rL2 := rL.next hba
        have rM2 := rM.next hba
        have hb1 := hbz.trans (hba.mono hbz.size)
        clear howna hba hbz rL rM
        go_wp2_with fail
        refine (CM.out _ rM2).mono ?_
        rintro e wb ⟨vb, rfl, hownb, hbb⟩
        obtain ⟨Ab, cb, rfl, _, _, rb⟩ := own_slice hownb
        have ra2 := ra.next hbb
        have rL3 := rL2.next hbb
        have hb2 := hb1.trans (hbb.mono hb1.size)
        clear hownb hbb hb1 rL2 rM2 ra
        go_wp2_with fail
        refine (sameZ_true Aa Ab N ca cb L _ ra2 rb (by omega)).mono ?_
        rintro e wc ⟨rfl, hdc⟩
        have hb3 := hdc.below hb2
        have rL4 := rL3.next (hdc.below (Below.refl _ _))
        clear hdc hb2 rL3 ra2 rb
        go_wp2_with fail
        refine (CL.out _ _ rL4).mono ?_
        rintro e wd ⟨vd, rfl, hownd, hbd⟩
        obtain ⟨Ad, cd, rfl, _, _, rd⟩ := own_slice hownd
        have rL5 := rL4.next hbd
        have hb4 := hb3.trans (hbd.mono hb3.size)
        clear hownd hbd hb3 rL4
        go_wp2_with fail
        refine (C2.out _ _ _ rd).mono ?_
        rintro e we ⟨ve, rfl, howne, hbe⟩
        obtain ⟨Ae, ce, rfl, _, _, re⟩ := own_slice howne
        have rL6 := rL5.next hbe
        have hb5 := hb4.trans (hbe.mono hb4.size)
        clear howne hbe hb4 rL5 rd
        go_wp2_with fail
        refine (CL.out _ _ rL6).mono ?_
        rintro e wf ⟨vf, rfl, hownf, hbf⟩
        obtain ⟨Af, cf, rfl, _, _, rf⟩ := own_slice hownf
        have re2 := re.next hbf
        have hb6 := hb5.trans (hbf.mono hb5.size)
        clear hownf hbf hb5 rL6 re
        go_wp2_with fail
        refine (sameZ_true Ae Af N ce cf L _ re2 rf (by omega)).mono ?_
        rintro e wg ⟨rfl, hdg⟩
        have hb7 := hdg.below hb6
        clear hdg hb6 re2 rf
        go_wp2_with fail
        refine (awake_any _).mono ?_
        rintro e wh ⟨rfl, hbh⟩
        go_wp2_with fail
        go_ret
        exact ⟨rfl, hb7.trans (hbh.mono hb7.size)⟩
theorem turn_any (A : Option Addr) (n c : Nat) (d : Int) (l : List Int) (w : World) (hr : Reads w w.heap.size 1 A n (zs l)) (hl : ∀ z ∈ l, In64 z) (hd : (Lit.int .i64 d).wf = true) :
    Calls Try.prog 4 #[.slice A n c, .int .i64 d] w fun e w' => e = .returned (.bool true) ∧ Below w.heap.size w w' := by
  by_cases h : 200 < n
  · exact turn_else A n c d w h
  · exact turn_main A n c d l w hr hl hd (by omega)
end Go.Proofs.Ytppeagjklndidaa
