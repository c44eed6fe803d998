/- The walk of the statement ChunkBack, under the contracts of chunk's own Put, Get and Best: what is put is read as it was, in each way; the best way is no longer than another one. -/
import Derived.Test.YthlfplljbbnaoaaGreatDoorJ9
import Derived.Test.YthlfplljbbnaoaaGreatDoorJ41
import Derived.Test.YthlfplljbbnaoaaGreatDoorVSame
import Derived.Test.YthlfplljbbnaoaaGreatDoorVGreat
namespace Go.Proofs.YthlfplljbbnaoaaGreatDoor
open Go.RowKit
set_option linter.unusedVariables false
set_option linter.unusedSimpArgs false
set_option maxRecDepth 100000

theorem cpE_auto {kd : Int} {l : List Vl} (h : cpE kd (-1) l ≠ 0) : bestW kd l = -1 ∧ cpB kd (-1) l = [] := by
  refine ⟨?_, by unfold cpB; rw [if_neg h]⟩
  unfold bestW
  rw [if_pos]
  by_cases hk : kd ≠ 1 ∧ kd ≠ 2
  · exact .inl hk
  · right
    unfold cpE at h
    have hn : ¬ ((kd ≠ 1 ∧ kd ≠ 2) ∨ ((-1 : Int) ≠ -1 ∧ ofW (-1) kd = false)) := by
      rintro (e | ⟨e, _⟩)
      · exact hk e
      · exact e rfl
    rwa [if_neg hn] at h
theorem cpE_way {kd : Int} {l : List Vl} (h : cpE kd (-1) l = 0) (k : Nat) : cpE kd (k : Int) l = if ofW (k : Int) kd = true then 0 else 1 := by
  obtain ⟨h1, h2, _, _⟩ := cpE_ok h
  unfold cpE
  by_cases hw : ofW (k : Int) kd = true
  · have hn : ¬ ((kd ≠ 1 ∧ kd ≠ 2) ∨ ((k : Int) ≠ -1 ∧ ofW (k : Int) kd = false)) := by
      rintro (e | ⟨_, e⟩)
      · omega
      · rw [hw] at e; cases e
    rw [if_pos hw, if_neg hn, h2]
  · rw [if_neg hw, if_pos (.inr ⟨by omega, by simpa using hw⟩)]
theorem cpW_way {kd : Int} {l : List Vl} (k : Nat) : cpW kd (k : Int) l = k := by
  unfold cpW
  rw [if_neg (by omega), Int.toNat_natCast]
set_option maxHeartbeats 4000000 in
theorem backC_any (HP : PutC) (HG : GetC) (HB : BestC) (A : Option Addr) (n c : Nat) (kd : Int) (l : List Vl) (w : World) (hr : Reads w w.heap.size 3 A n (vs l)) (hi : ∀ v ∈ l, In64 v.1 ∧ In64 v.2.1) (hk : In64 kd) (hmet : Met w) :
    Calls Tryz.prog 4 #[.slice A n c, .int .i64 kd] w fun e w' => e = .returned (.bool true) ∧ Below w.heap.size w w' := by
  have HAW := Lib.hid (awakeC_any HP)
  have e1 : l.length = n := by have := hr.1; rw [vs_length] at this; omega
  have hgr := fun g hg => greatV_any A n c 100 100 l w hr (by omega) (by omega) g hg
  cases hg : grV l 100 100 with
  | true =>
    have HGR := Lib.hid (hgr true hg.symm)
    clear hgr hg
    go_enter Tryz.func4, Tryz.ntmps4
    go_wp2_with fail
    refine HGR.out.mono ?_
    rintro e w1 ⟨rfl, rfl⟩
    go_wp2_with fail
    refine (HAW.out w).mono ?_
    rintro e w1 ⟨rfl, hb1⟩
    go_wp2_with fail
    go_ret
    exact ⟨rfl, hb1⟩
  | false =>
    have HGR := Lib.hid (hgr false hg.symm)
    obtain ⟨hn, hq⟩ := grV_false hg
    rw [e1] at hn
    have hsh : ∀ v ∈ l, v.2.2.length ≤ 65536 := fun v hv => by have := hq v hv; omega
    have hi2 : ∀ v ∈ l, In64 v.2.1 := fun v hv => (hi v hv).2
    have hm1 : In64 (-1) := by unfold In64; omega
    have hp := HP A n c kd (-1) l w hr (by omega) hi hsh hk hm1
    clear hgr hg hq
    unfold CkPut at hp
    by_cases h0 : cpE kd (-1) l = 0
    case neg =>
      obtain ⟨hb1, hb2⟩ := cpE_auto h0
      have hbe := fun (W : World) (h : Below w.heap.size w W) => HB A n c kd l W (hr.next h) (by omega) hi hsh hk
      rw [hb1] at hbe
      obtain ⟨f, hf⟩ : ∃ f, f = cpE kd (-1) l := ⟨_, rfl⟩
      rw [hb2, ← hf] at hp
      rw [← hf] at h0
      have HPP := Lib.hid hp
      have HBB := Lib.hid hbe
      clear hp hbe hb1 hb2 hf hi hi2 hsh
      go_enter Tryz.func4, Tryz.ntmps4
      go_wp2_with fail
      refine HGR.out.mono ?_
      rintro e w1 ⟨rfl, rfl⟩
      go_wp2_with fail
      refine HPP.out.mono ?_
      rintro e w1 ⟨v1, rfl, hown1, hb1⟩
      obtain ⟨A1, c1, rfl, _, _, r1⟩ := own_slice hown1
      clear hown1 r1
      go_wp2_with fail
      refine (HBB.out w1 hb1).mono ?_
      rintro e w2 ⟨rfl, hb2⟩
      have hb02 := hb1.trans (hb2.mono hb1.size)
      go_wp2_with fail
      refine (HAW.out w2).mono ?_
      rintro e w4 ⟨rfl, hb4⟩
      go_wp2_with fail
      go_ret
      exact ⟨rfl, hb02.trans (hb4.mono hb02.size)⟩
    case pos =>
      obtain ⟨q1, q2, q3, q4⟩ := cpE_ok h0
      have hr5 := ofW_range q3
      have hmin := (bestW_ok q1 q2).2
      have hbw : cpW kd (-1) l = (bestW kd l).toNat := rfl
      rw [← hbw] at hmin
      have HWY := Lib.hid (cpE_way h0)
      have hbl := fun k => lyB_len (way := k) (l := l) (by omega) hi2 hsh
      obtain ⟨bw, hbw'⟩ : ∃ bw, bw = cpW kd (-1) l := ⟨_, rfl⟩
      rw [← hbw'] at q4 hmin
      rw [h0, q4] at hp
      have HPP := Lib.hid hp
      have HPK := Lib.hid (fun (k : Nat) (W : World) (h : Below w.heap.size w W) (hk5 : k ≤ 5) => (show Calls Tryz.prog 9 #[.slice A n c, .int .i64 kd, .int .i64 (k : Int)] W (CkPut W kd (k : Int) l) from HP A n c kd (k : Int) l W (hr.next h) (by omega) hi hsh hk (by unfold In64; omega)))
      have HGK := Lib.hid (fun (k : Nat) (A1 : Option Addr) (c1 : Nat) (W : World) (r : Reads W W.heap.size 1 A1 (lyB l k).length (bs (lyB l k))) (hw : ofW (k : Int) kd = true) (hm : Met W) => (show Calls Tryz.prog 14 #[.slice A1 (lyB l k).length c1, .int .i64 kd, .int .i64 (n : Int)] W (fun e w' => ∃ v, e = .returned (.tuple #[v, .int .i64 0]) ∧ w'.ownsRow W.heap.size 42 3 v n (vs l) ∧ Below W.heap.size W w') from by
        have hwr := ofW_range hw
        obtain ⟨g1, g2⟩ := ck_get hw q2 hi2
        rw [e1] at g1 g2
        have := HG A1 (lyB l k).length c1 kd (n : Int) (lyB l k) W r (lyB_byte (by omega) (by omega) hi2 hsh) (by have := hbl k; omega) hk (by unfold In64; omega) hm
        unfold CkGet at this
        rw [g1, g2, e1] at this
        exact this))
      have HMIN := Lib.hid hmin
      have HBL := Lib.hid hbl
      have hbb := hbl bw
      clear hp hmin hbl hi hi2 hsh q2 q3 q4 hbw hbw' hr5 h0
      go_enter Tryz.func4, Tryz.ntmps4
      go_wp2_with fail
      refine HGR.out.mono ?_
      rintro e w1 ⟨rfl, rfl⟩
      go_wp2_with fail
      refine HPP.out.mono ?_
      rintro e w1 ⟨v1, rfl, hown1, hb1⟩
      obtain ⟨A1, c1, rfl, _, _, r1⟩ := own_slice hown1
      clear hown1 r1
      obtain ⟨Lb, hLb⟩ : ∃ Lb, (lyB l bw).length = Lb := ⟨_, rfl⟩
      rw [hLb] at hbb ⊢
      have HLB := Lib.hid hLb
      clear hLb
      go_wp2_with fail
      go_loopw [7] (fun s7 wr => ∃ k : Nat, k ≤ 6 ∧ s7 = .int .i64 (k : Int) ∧ Below w.heap.size w wr) (fun i _ => 6 - (intOf i).toNat)
      case atStart => exact ⟨0, by omega, rfl, hb1⟩
      case round =>
        clear hb1
        obtain ⟨k, hk6, rfl, hb⟩ := hrel
        by_cases hlt : k < 6
        · have hp := HPK.out k wr hb (by omega)
          have hwy := HWY.out k
          unfold CkPut at hp
          have q5 : ((k : Int) == 5) = decide (k = 5) := by by_cases e : k = 5 <;> simp [e] <;> omega
          cases how : ofW (k : Int) kd with
          | false =>
            rw [how] at hwy
            have hcp : cpE kd (k : Int) l = 1 := by rw [hwy]; rfl
            have hcb : cpB kd (k : Int) l = [] := by unfold cpB; rw [if_neg (by rw [hcp]; decide)]
            rw [hcp, hcb] at hp
            have HPX := Lib.hid hp
            clear hp hwy hcp hcb
            have hcase : kd = 1 ∧ k = 5 ∨ kd = 2 ∧ k ≠ 5 := by
              have : ¬ ofW (k : Int) kd = true := by rw [how]; decide
              unfold ofW at this
              simp at this
              omega
            rcases hcase with ⟨rfl, rfl⟩ | ⟨rfl, hne⟩
            case' inr => rw [decide_eq_false hne] at q5
            all_goals
              clear how
              go_wp2_with fail
              refine HPX.out.mono ?_
              rintro e w2 ⟨v2, rfl, hown2, hb2⟩
              obtain ⟨A2, c2, rfl, _, _, r2⟩ := own_slice hown2
              have hb02 := hb.trans (hb2.mono hb.size)
              clear hown2 r2
              go_wp2_with fail
              go_round
              case rel => first | exact ⟨k + 1, by omega, by go_num, hb02⟩ | exact ⟨6, by omega, by go_num, hb02⟩
              case measure => simp [intOf] <;> omega
          | true =>
            rw [how] at hwy
            have hcp : cpE kd (k : Int) l = 0 := by rw [hwy]; rfl
            have hcb : cpB kd (k : Int) l = lyB l k := by have := (cpE_ok hcp).2.2.2; rw [cpW_way] at this; exact this
            rw [hcp, hcb] at hp
            have HPX := Lib.hid hp
            have HGX := Lib.hid (fun A2 c2 W r hm => HGK.out k A2 c2 W r how hm)
            have hmn := HMIN.out k how
            have hbk := HBL.out k
            rw [HLB.out] at hmn
            obtain ⟨Lk, hLk⟩ : ∃ Lk, Lk = lyB l k := ⟨_, rfl⟩
            rw [← hLk] at HPX HGX hmn hbk
            have hcase : kd = 1 ∧ k ≠ 5 ∨ kd = 2 ∧ k = 5 := by
              have := ofW_range how
              omega
            clear hp hwy hcp hcb how hLk
            have hnl : ¬ Lk.length < Lb := by omega
            rcases hcase with ⟨rfl, hne⟩ | ⟨rfl, rfl⟩
            case' inl => rw [decide_eq_false hne] at q5
            all_goals
              go_wp2_with fail
              refine HPX.out.mono ?_
              rintro e w2 ⟨v2, rfl, hown2, hb2⟩
              obtain ⟨A2, c2, rfl, _, _, r2⟩ := own_slice hown2
              have hb02 := hb.trans (hb2.mono hb.size)
              clear hown2
              go_wp2_with fail
              refine (HGX.out A2 c2 w2 r2 (hmet.next hb02)).mono ?_
              rintro e w3 ⟨v3, rfl, hown3, hb3⟩
              obtain ⟨A3, c3, rfl, _, _, r3⟩ := own_slice hown3
              have hb03 := hb02.trans (hb3.mono hb02.size)
              clear hown3
              go_wp2_with fail
              refine (sameV_true A3 A n c3 c l w3 r3 (hr.next hb03) (by omega)).mono ?_
              rintro e w4 ⟨rfl, hd⟩
              have hb04 := hd.below hb03
              go_wp2_with fail
              go_round
              case rel => first | exact ⟨k + 1, by omega, by go_num, hb04⟩ | exact ⟨6, by omega, by go_num, hb04⟩
              case measure => simp [intOf] <;> omega
        · obtain rfl : k = 6 := by omega
          go_wp2_with fail
          refine (HAW.out wr).mono ?_
          rintro e w4 ⟨rfl, hb4⟩
          go_wp2_with fail
          go_ret
          exact ⟨rfl, hb.trans (hb4.mono hb.size)⟩
end Go.Proofs.YthlfplljbbnaoaaGreatDoor
