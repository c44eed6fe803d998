/- The walk of the statement TextsOrder: the list rises, has all texts, and no other one; in whatever order they stand it is the same. -/
import Derived.BigQuiet
import Derived.Deep.QuietTactic
import Derived.Test.YtppeagjklndidaaTxAwake
import Derived.Test.YtppeagjklndidaaTxRefPlace
import Derived.Test.YtppeagjklndidaaTxSame
import Derived.Test.YtppeagjklndidaaTxGreat
namespace Go.Proofs.Ytppeagjklndidaa
open Go.RowKit
set_option linter.unusedVariables false
set_option linter.unusedSimpArgs false
set_option maxRecDepth 100000
attribute [local go_sem] binOp_geq_tx

theorem orderT_else (A : Option Addr) (n c : Nat) (l : List Tx) (w : World) (hr : Reads w w.heap.size 1 A n (ts l)) (h : grB l 60 60 = true) :
    Calls Try.prog 6 #[.slice A n c] w fun e w' => e = .returned (.bool true) ∧ Below w.heap.size w w' := by
  have HG := Lib.hid (great_any A n c 60 60 l w hr (by omega) (by omega) true h.symm)
  clear h hr
  go_enter Try.func6, Try.ntmps6
  go_wp2_with fail
  refine HG.out.mono ?_
  rintro e w' ⟨rfl, rfl⟩
  go_wp2_with fail
  refine (awakeT_any w).mono ?_
  rintro e w1 ⟨rfl, hb⟩
  go_wp2_with fail
  go_ret
  exact ⟨rfl, hb⟩
theorem rev_step {l : List Tx} {j : Nat} {z : Tx} (h : l[j]? = some z) : (l.drop j).reverse = (l.drop (j + 1)).reverse ++ [z] := by
  obtain ⟨h1, h2⟩ := List.getElem?_eq_some_iff.1 h
  rw [List.drop_eq_getElem_cons h1, List.reverse_cons, h2]
set_option maxHeartbeats 2000000 in
theorem orderT_main (A : Option Addr) (n c : Nat) (l : List Tx) (w : World) (hr : Reads w w.heap.size 1 A n (ts l)) (h : grB l 60 60 = false) :
    Calls Try.prog 6 #[.slice A n c] w fun e w' => e = .returned (.bool true) ∧ Below w.heap.size w w' := by
  obtain ⟨i1, hi1, hy0, hy1, hy2⟩ := info_parts info_str
  have e1 : l.length = n := by have := hr.1; rw [ts_length] at this; omega
  obtain ⟨hn, hq⟩ := grB_false h
  have HG := Lib.hid (great_any A n c 60 60 l w hr (by omega) (by omega) false h.symm)
  rw [e1] at hn
  have hLl := lstT_length l
  rw [e1] at hLl
  have c3 := fun (w1 : World) (h : Reads w1 w1.heap.size 1 A n (ts l)) => listT_any A n c l w1 h (by omega)
  have c4 := fun (A2 : Option Addr) (c2 : Nat) (w1 : World) (h : Reads w1 w1.heap.size 1 A2 n (ts l.reverse)) => listT_any A2 n c2 l.reverse w1 h (by omega)
  rw [show lstT l.reverse = lstT l from lstT_same (fun x => List.mem_reverse)] at c4
  have HRI : Hid (RiseT (lstT l)) := Lib.hid (lstT_rise l)
  have HMM : Hid (∀ z ∈ l, z ∈ lstT l) := Lib.hid fun z hz => (lstT_mem l z).2 hz
  have HNO : Hid (∀ z ∈ lstT l, z ∈ l) := Lib.hid fun z hz => (lstT_mem l z).1 hz
  obtain ⟨S, hS⟩ : ∃ S, S = lstT l := ⟨_, rfl⟩
  obtain ⟨N, hN⟩ : ∃ N, N = S.length := ⟨_, rfl⟩
  rw [← hS] at c3 c4 HRI HMM HNO hLl
  unfold NewT at c3 c4
  rw [← hN] at c3 c4 hLl
  have C3 := Lib.hid c3; have C4 := Lib.hid c4; have HN := Lib.hid hN; have E1 := Lib.hid e1
  clear c3 c4 hS hN hq h e1
  go_enter Try.func6, Try.ntmps6
  go_wp2_with fail
  refine HG.out.mono ?_
  rintro e w' ⟨rfl, rfl⟩
  go_wp2_with fail
  refine (C3.out w hr).mono ?_
  rintro e w1 ⟨v1, rfl, hown1, hb1⟩
  obtain ⟨A1, c1, rfl, _, _, r1⟩ := own_slice hown1
  have q1 := hr.next hb1
  clear hown1 C3
  go_wp2_with fail
  go_loopw [4, 5] (fun s4 s5 wr => ∃ (j : Nat) (z : Int), j ≤ n ∧ z = (j : Int) - 1 ∧ s5 = .int .i64 z ∧ wr.ownsRow w1.heap.size 9 1 s4 (n - j) (ts (l.drop j).reverse) ∧ Below w1.heap.size w1 wr) (fun _ i _ => ((intOf i) + 1).toNat)
  case atStart => exact ⟨n, _, Nat.le_refl _, rfl, rfl, by rw [List.drop_of_length_le (by rw [E1.out]; exact Nat.le_refl _), Nat.sub_self]; exact own_nil _ _ _ _, Below.refl _ _⟩
  case round =>
    obtain ⟨j, z, hj, hz, rfl, hown, hb⟩ := hrel
    have hsz := hb.size
    rcases Nat.eq_zero_or_pos j with hj0 | hj0
    · subst hj0
      obtain rfl : z = -1 := by omega
      rw [Nat.sub_zero, List.drop_zero] at hown
      obtain ⟨A4, c4', rfl, _, _, r4⟩ := own_slice hown
      obtain ⟨wq, hwq⟩ : ∃ x, x = wr := ⟨_, rfl⟩
      rw [← hwq] at hb r4 ⊢
      have r1q := r1.next hb
      have q1q := q1.next hb
      have hb0q := hb1.trans (hb.mono hb1.size)
      clear hz hown hwq hb q1 r1
      go_wp2_with fail
      go_loopw [6] (fun s6 wr => ∃ i : Nat, 1 ≤ i ∧ i ≤ N + 1 ∧ s6 = .int .i64 (i : Int) ∧ Drawn wq wr) (fun i _ => N + 1 - (intOf i).toNat)
      case atStart => exact ⟨1, Nat.le_refl _, by omega, rfl, Drawn.refl _⟩
      case round =>
        obtain ⟨i, hi1, hi2, rfl, hd⟩ := hrel
        have r5 := r1q.next (hd.below (Below.refl wq.heap.size wq))
        by_cases hlt : i < N
        · obtain ⟨j, hj⟩ : ∃ j, i = j + 1 := ⟨i - 1, by omega⟩
          have hjN : j < N := by omega
          have hk1' : (i : Int) - 1 = (j : Int) := by omega
          have hk2' : IntKind.i64.wrap (j : Int) = (j : Int) := IntWalk.i64_in _ (by omega)
          obtain ⟨ad, u, rfl, _, hu, hc⟩ := r5.at_ hlt
          obtain ⟨ad2, u2, e2, _, hu2, hc2⟩ := r5.at_ hjN
          injection e2 with e2
          subst e2
          obtain ⟨z, hz, rfl⟩ := ts_at hu
          obtain ⟨y, hy, rfl⟩ := ts_at hu2
          have hyz : decide (tlt y z) = true := by
            have h1 := List.pairwise_iff_getElem.1 HRI.out
            obtain ⟨a1, a2⟩ := List.getElem?_eq_some_iff.1 hy
            obtain ⟨b1, b2⟩ := List.getElem?_eq_some_iff.1 hz
            have := h1 j i a1 b1 (by omega)
            rw [a2, b2] at this
            simpa using this
          clear hu hu2 hz hy hj
          go_wp2_with fail
          go_quiet (fail)
          go_wp2_with fail
          go_round
          case rel => exact ⟨i + 1, by omega, by omega, by go_num, hd.more _⟩
          case measure => simp [intOf]; omega
        · obtain ⟨wp, hwp⟩ : ∃ x, x = wr := ⟨_, rfl⟩
          rw [← hwp] at hd r5 ⊢
          have hdb := hd.below (Below.refl wq.heap.size wq)
          have q15 := q1q.next hdb
          have r45 := r4.next hdb
          have hb05 := hd.below hb0q
          clear hwp hdb hd r4 q1q r1q hb0q hi1 hi2
          go_wp2_with fail
          go_loopw [7] (fun s7 wr => ∃ i : Nat, i ≤ n ∧ s7 = .int .i64 (i : Int) ∧ Drawn wp wr) (fun i _ => n - (intOf i).toNat)
          case atStart => exact ⟨0, Nat.zero_le _, rfl, Drawn.refl _⟩
          case round =>
            obtain ⟨i, hi, rfl, hd⟩ := hrel
            have hdb := hd.below (Below.refl wp.heap.size wp)
            by_cases hlt2 : i < n
            · obtain ⟨ad, u, rfl, had, hu, hc⟩ := (q15.next hdb).at_ hlt2
              obtain ⟨z, hz, rfl⟩ := ts_at hu
              have HP := refPlace_any A1 N c1 S z _ (r5.next hdb) (by omega)
              rw [show isT S z = true by unfold isT; simp [(whT_mem HRI.out (HMM.out z (List.mem_of_getElem? hz))).1]] at HP
              obtain ⟨p, hp⟩ : ∃ p, p = whT S z := ⟨_, rfl⟩
              rw [← hp] at HP
              have HP := Lib.hid HP
              clear hu hz hp had hdb
              go_wp2_with fail
              refine HP.out.mono ?_
              rintro e w5 ⟨rfl, hd5⟩
              go_wp2_with fail
              go_round
              case rel => exact ⟨i + 1, by omega, by go_num, hd.trans hd5⟩
              case measure => simp [intOf]; omega
            · obtain ⟨wo, hwo⟩ : ∃ x, x = wr := ⟨_, rfl⟩
              rw [← hwo] at hd hdb ⊢
              have r56 := r5.next hdb
              have q16 := q15.next hdb
              have r46 := r45.next hdb
              have hb06 := hd.below hb05
              clear hwo hdb hd r5 q15 r45 hb05
              go_wp2_with fail
              go_loopw [10] (fun s10 wr => ∃ i : Nat, i ≤ N ∧ s10 = .int .i64 (i : Int) ∧ Drawn wo wr) (fun i _ => N - (intOf i).toNat)
              case atStart => exact ⟨0, Nat.zero_le _, rfl, Drawn.refl _⟩
              case round =>
                obtain ⟨i, hi, rfl, hd⟩ := hrel
                have hdb := hd.below (Below.refl wo.heap.size wo)
                by_cases hlt3 : i < N
                · obtain ⟨ad, u, rfl, had, hu, hc⟩ := r56.at_ hlt3
                  obtain ⟨z, hz, rfl⟩ := ts_at hu
                  have hzc : ∀ W, Drawn wo W → W.cell? (ad.add i) = some (.string ⟨z.toArray⟩) := fun W h => ((h.below (Below.refl wo.heap.size wo)).cell (p := ad.add i) (by rw [block_of_add]; exact had)).trans hc
                  have HZC := Lib.hid hzc
                  have HM := Lib.hid (HNO.out z (List.mem_of_getElem? hz))
                  clear hu hz hzc hc had hdb
                  go_wp2_with fail
                  go_loopw [11, 12] (fun s11 s12 wx => ∃ (j : Nat) (q : Bool), j ≤ n ∧ s12 = .int .i64 (j : Int) ∧ s11 = .bool q ∧ Hid (q = decide (z ∈ l.take j)) ∧ Drawn wo wx) (fun _ j _ => n - (intOf j).toNat)
                  case atStart => exact ⟨0, false, Nat.zero_le _, rfl, rfl, Lib.hid (by simp), hd⟩
                  case round =>
                    clear hd
                    obtain ⟨j, q, hj, rfl, rfl, hq, hd⟩ := hrel
                    by_cases hlt4 : j < n
                    · obtain ⟨ad3, u3, e3, _, hu3, hc3⟩ := (q16.next (hd.below (Below.refl wo.heap.size wo))).at_ hlt4
                      subst e3
                      obtain ⟨y, hy, rfl⟩ := ts_at hu3
                      have hcz := HZC.out _ hd
                      have HS : Hid (decide (z ∈ l.take (j + 1)) = (decide (z ∈ l.take j) || decide (y = z))) := Lib.hid (by
                        rw [take_snoc hy]
                        by_cases h1 : z ∈ l.take j
                        · simp [h1]
                        · by_cases h2 : y = z
                          · simp [h2]
                          · have h3 : ¬ z = y := fun e => h2 e.symm
                            simp [h1, h2, h3])
                      clear hu3 hy
                      cases q with
                      | true =>
                        go_wp2_with fail
                        go_quiet (fail)
                        go_wp2_with fail
                        go_round
                        case rel => exact ⟨j + 1, true, by omega, by go_num, rfl, Lib.hid (by rw [HS.out, ← hq.out]; rfl), hd.more _⟩
                        case measure => simp [intOf]; omega
                      | false =>
                        by_cases hyz : y = z
                        · subst hyz
                          have q1 : (y == y) = true := by simp
                          go_wp2_with fail
                          go_quiet (fail)
                          go_wp2_with fail
                          go_round
                          case rel => exact ⟨j + 1, true, by omega, by go_num, rfl, Lib.hid (by rw [HS.out, ← hq.out]; simp), hd.more _⟩
                          case measure => simp [intOf]; omega
                        · have q1 : (y == z) = false := by simp [hyz]
                          have HYZ := Lib.hid hyz
                          clear hyz
                          go_wp2_with fail
                          go_quiet (fail)
                          go_wp2_with fail
                          go_round
                          case rel => exact ⟨j + 1, false, by omega, by go_num, rfl, Lib.hid (by rw [HS.out, ← hq.out]; simp [HYZ.out]), hd.more _⟩
                          case measure => simp [intOf]; omega
                    · obtain rfl : j = n := by omega
                      have hq1 : q = true := by
                        have h1 := hq.out
                        rw [List.take_of_length_le (by rw [E1.out]; exact Nat.le_refl _)] at h1
                        rw [h1]; simpa using HM.out
                      subst hq1
                      go_wp2_with fail
                      go_round
                      case rel => exact ⟨i + 1, by omega, by go_num, hd⟩
                      case measure => simp [intOf]; omega
                · obtain ⟨w9, hw9⟩ : ∃ x, x = wr := ⟨_, rfl⟩
                  rw [← hw9] at hd hdb ⊢
                  have r59 := r56.next hdb
                  have r49 := r46.next hdb
                  have hb09 := hd.below hb06
                  clear hw9 hd hdb r56 q16 r46 hb06
                  go_wp2_with fail
                  refine (C4.out A4 c4' w9 r49).mono ?_
                  rintro e wa ⟨va, rfl, howna, hba⟩
                  obtain ⟨Aa, ca, rfl, _, _, ra⟩ := own_slice howna
                  have hb0a := hb09.trans (hba.mono hb09.size)
                  have r5a := r59.next hba
                  clear howna r59 r49 hba hb09 C4
                  go_wp2_with fail
                  refine (sameT_true Aa A1 N ca c1 S wa ra r5a (by omega)).mono ?_
                  rintro e wb ⟨rfl, hdb'⟩
                  have hb0b := hdb'.below hb0a
                  clear ra r5a hb0a hdb'
                  go_wp2_with fail
                  refine (awakeT_any wb).mono ?_
                  rintro e wc ⟨rfl, hbc⟩
                  go_wp2_with fail
                  go_ret
                  exact ⟨rfl, hb0b.trans (hbc.mono hb0b.size)⟩
    · obtain ⟨i, hi⟩ : ∃ i, j = i + 1 := ⟨j - 1, by omega⟩
      have hin : i < n := by omega
      obtain rfl : z = (i : Int) := by omega
      obtain ⟨ad, u, rfl, _, hu, hc⟩ := (q1.next hb).at_ hin
      obtain ⟨y, hy, rfl⟩ := ts_at hu
      have HRS : Hid ((l.drop i).reverse = (l.drop j).reverse ++ [y]) := Lib.hid (by rw [hi]; exact rev_step hy)
      have HJ := Lib.hid hi
      have hnj : n - j ≤ 60 := by omega
      clear hu hy hz hi
      go_wp2_with (at_builtin
                   refine wpList_append_any _ rfl (.tmp 25) (.tmp 30) _ rfl w1.heap.size 9 i1 _ 1 16 Try.underlying35 hi1 hy0 hy1 hy2 rfl (by omega) u4 (n - j) (ts (l.drop j).reverse) rfl
                     (hown.alloc _) (wr.heap.size + 1) (some ⟨wr.heap.size, 0, none⟩) 1 1 [.string ⟨y.toArray⟩] rfl (Reads.new wr _ _) (ts_one [y]) (by unfold maxLen; omega) (by omega) (by simp; omega) ?_
                   intro v4 w4 hown4 hg4 hat4)
      go_round
      case rel =>
        refine ⟨i, _, by omega, rfl, rfl, ?_, below_app hb hown hsz hg4⟩
        have h1 := HJ.out
        rw [HRS.out, ts_append, show n - i = n - j + 1 by omega]
        exact hown4
      case measure => have h1 := HJ.out; simp [intOf]
theorem orderT_any (A : Option Addr) (n c : Nat) (l : List Tx) (w : World) (hr : Reads w w.heap.size 1 A n (ts l)) :
    Calls Try.prog 6 #[.slice A n c] w fun e w' => e = .returned (.bool true) ∧ Below w.heap.size w w' := by
  cases h : grB l 60 60 with
  | true => exact orderT_else A n c l w hr h
  | false => exact orderT_main A n c l w hr h
end Go.Proofs.Ytppeagjklndidaa
