/- The walk of the statement ChunkAgain, under the contracts of chunk's own Put, Get and Way: what is read is put, in its way, as it was. -/
import Derived.Test.YthlfplljbbnaoaaGreatDoorJ9
import Derived.Test.YthlfplljbbnaoaaGreatDoorJ41
namespace Go.Proofs.YthlfplljbbnaoaaGreatDoor
open Go.RowKit
set_option linter.unusedVariables false
set_option linter.unusedSimpArgs false
set_option maxRecDepth 100000

/-- What Way answers. -/
def wyB : List Nat → Int
  | 0 :: w :: _ => (w : Int)
  | _ => -1
/-- The contract of Way. -/
def WayC : Prop := ∀ (A : Option Addr) (n c : Nat) (b : List Nat) (W : World), Reads W W.heap.size 1 A n (bs b) → (∀ x ∈ b, x < 256) → n ≤ 140737488355300 →
  Calls Tryz.prog 16 #[.slice A n c] W fun e w' => e = .returned (.int .i64 (wyB b)) ∧ Below W.heap.size W w'
theorem wyB_of (l : List Vl) (way : Nat) : wyB (lyB l way) = (way : Int) ∨ wyB (lyB l way) = -1 := by
  unfold lyB headB
  split
  · exact .inl rfl
  · exact .inr rfl
theorem rgt_in {kd : Int} {v : Vl} (h : rgt kd v = true) : In64 v.1 := by
  unfold In64
  rcases rgt_kind h with e | ⟨e, _, _⟩ | ⟨e, _, _⟩
  · rw [e]; simp
  · omega
  · omega
theorem cpE_of {kd : Int} {l : List Vl} (hk : kd = 1 ∨ kd = 2) (hc : ckE kd l = 0) (k : Nat) : cpE kd (k : Int) l = if ofW (k : Int) kd = true then 0 else 1 := by
  unfold cpE
  by_cases hw : ofW (k : Int) kd = true
  · have hn : ¬ ((kd ≠ 1 ∧ kd ≠ 2) ∨ ((k : Int) ≠ -1 ∧ ofW (k : Int) kd = false)) := by
      rintro (e | ⟨_, e⟩)
      · omega
      · rw [hw] at e; cases e
    rw [if_pos hw, if_neg hn, hc]
  · rw [if_neg hw, if_pos (.inr ⟨by omega, by simpa using hw⟩)]
theorem cpB_of {kd : Int} {l : List Vl} (hk : kd = 1 ∨ kd = 2) (hc : ckE kd l = 0) (k : Nat) : cpB kd (k : Int) l = if ofW (k : Int) kd = true then lyB l k else [] := by
  have h := cpE_of hk hc k
  unfold cpB
  by_cases hw : ofW (k : Int) kd = true
  · rw [if_pos hw] at h ⊢
    rw [if_pos h]
    unfold cpW
    rw [if_neg (by omega), Int.toNat_natCast]
  · rw [if_neg hw] at h ⊢
    rw [if_neg (by rw [h]; decide)]
set_option maxHeartbeats 4000000 in
theorem againC_any (HP : PutC) (HG : GetC) (HW : WayC) (A : Option Addr) (n c : Nat) (kd k0 : Int) (b : List Nat) (w : World) (hr : Reads w w.heap.size 1 A n (bs b)) (hbb : ∀ x ∈ b, x < 256) (hk : In64 kd) (hk0 : In64 k0) (hn : n ≤ maxLen) (hmet : Met w) :
    Calls Tryz.prog 5 #[.slice A n c, .int .i64 kd, .int .i64 k0] w fun e w' => e = .returned (.bool true) ∧ Below w.heap.size w w' := by
  have HAW := Lib.hid (awakeC_any HP)
  have e1 : b.length = n := by have := hr.1; rw [bs_length] at this; omega
  by_cases hbig : 800 < n ∨ (300 < k0 ∧ k0 ≤ 65536)
  · go_enter Tryz.func5, Tryz.ntmps5
    by_cases h8 : 800 < n
    · clear hbig
      go_wp2_with fail
      refine (HAW.out w).mono ?_
      rintro e w1 ⟨rfl, hb1⟩
      go_wp2_with fail
      go_ret
      exact ⟨rfl, hb1⟩
    · obtain ⟨h3, h4⟩ : 300 < k0 ∧ k0 ≤ 65536 := by omega
      clear hbig
      go_wp2_with fail
      refine (HAW.out w).mono ?_
      rintro e w1 ⟨rfl, hb1⟩
      go_wp2_with fail
      go_ret
      exact ⟨rfl, hb1⟩
  · have h8 : ¬ 800 < n := fun h => hbig (.inl h)
    have hg := HG A n c kd k0 b w hr hbb (by omega) hk hk0 hmet
    unfold CkGet at hg
    have hnot : (300 < k0 → ¬ k0 ≤ 65536) := fun h h' => hbig (.inr ⟨h, h'⟩)
    clear hbig
    by_cases h0 : gtE b kd k0 = 0
    case neg =>
      have hv : gtV b kd k0 = [] := by unfold gtV; rw [if_neg h0]
      obtain ⟨f, hf⟩ : ∃ f, f = gtE b kd k0 := ⟨_, rfl⟩
      rw [hv, ← hf] at hg
      rw [← hf] at h0
      have HGG := Lib.hid hg
      clear hg hv hf
      go_enter Tryz.func5, Tryz.ntmps5
      by_cases h3 : 300 < k0
      case' pos => have h4 := hnot h3
      all_goals
        clear hnot
        go_wp2_with fail
        refine HGG.out.mono ?_
        rintro e w1 ⟨v1, rfl, hown1, hb1⟩
        obtain ⟨A1, c1, rfl, _, _, r1⟩ := own_slice hown1
        clear hown1 r1
        go_wp2_with fail
        refine (HAW.out w1).mono ?_
        rintro e w4 ⟨rfl, hb4⟩
        go_wp2_with fail
        go_ret
        exact ⟨rfl, hb1.trans (hb4.mono hb1.size)⟩
    case pos =>
      obtain ⟨q1, q2, q3, q4, q5, q6, way, q7, q8, _⟩ := get_ck hbb h0
      have hr5 := ofW_range q7
      have hwb := wyB_of (gtV b kd k0) way
      rw [q8] at hwb
      obtain ⟨l, hl⟩ : ∃ l, l = gtV b kd k0 := ⟨_, rfl⟩
      rw [h0, ← hl] at hg
      rw [← hl] at q4 q5 q6 q8
      obtain ⟨m, rfl⟩ : ∃ m : Nat, k0 = (m : Int) := ⟨k0.toNat, by omega⟩
      rw [Int.toNat_natCast] at q4
      rw [q4] at hg
      obtain ⟨c1, c2, c3⟩ := ckE_ok q5
      have h3 : ¬ (300 : Int) < (m : Int) := fun h => hnot h (by omega)
      have HGG := Lib.hid hg
      have HPK := Lib.hid (fun (k : Nat) (A1 : Option Addr) (c1 : Nat) (W : World) (r : Reads W W.heap.size 3 A1 m (vs l)) (hk5 : k ≤ 5) => (show Calls Tryz.prog 9 #[.slice A1 m c1, .int .i64 kd, .int .i64 (k : Int)] W (fun e w' => ∃ v, e = .returned (.tuple #[v, .int .i64 (if ofW (k : Int) kd = true then 0 else 1)]) ∧ w'.ownsRow W.heap.size 5 1 v (if ofW (k : Int) kd = true then lyB l k else []).length (bs (if ofW (k : Int) kd = true then lyB l k else [])) ∧ Below W.heap.size W w') from by
        have := HP A1 m c1 kd (k : Int) l W r (by omega) (fun v hv => ⟨rgt_in (c3 v hv), q6 v hv⟩) c2 hk (by unfold In64; omega)
        unfold CkPut at this
        rw [cpE_of q1 q5, cpB_of q1 q5] at this
        exact this))
      have HBLn := Lib.hid (fun k => lyB_len (way := k) (l := l) c1 q6 c2)
      have HWW := Lib.hid (fun (W : World) (h : Below w.heap.size w W) => HW A n c b W (hr.next h) hbb (by omega))
      have HK := Lib.hid hk
      have HQ7 := Lib.hid q7
      have HQ8 := Lib.hid q8
      have HE1 := Lib.hid e1
      clear hg hnot q1 q2 q3 q5 q6 c1 c2 c3 hl h0 hbb hk hk0
      rcases hwb with hwb | hwb
      case' inl =>
        rw [hwb] at HWW
        have hp := fun A1 c1 W r => HPK.out way A1 c1 W r (by omega)
        rw [if_pos q7, if_pos q7, q8, e1] at hp
        have HPP := Lib.hid hp
        clear hp hwb q7 q8 e1
        go_enter Tryz.func5, Tryz.ntmps5
        go_wp2_with fail
        refine HGG.out.mono ?_
        rintro e w1 ⟨v1, rfl, hown1, hb1⟩
        obtain ⟨A1, c1, rfl, _, _, r1⟩ := own_slice hown1
        clear hown1
        go_wp2_with fail
        refine (HWW.out w1 hb1).mono ?_
        rintro e w2 ⟨rfl, hb2⟩
        have hb02 := hb1.trans (hb2.mono hb1.size)
        have r2 := r1.next hb2
        clear r1
        go_wp2_with fail
        refine (HPP.out A1 c1 w2 r2).mono ?_
        rintro e w3 ⟨v3, rfl, hown3, hb3⟩
        obtain ⟨A3, c3, rfl, _, _, r3⟩ := own_slice hown3
        have hb03 := hb02.trans (hb3.mono hb02.size)
        clear hown3
        go_wp2_with fail
        refine (same_true A3 A n c3 n c b w3 r3 (hr.next hb03) (by omega)).mono ?_
        rintro e w4 ⟨rfl, hd⟩
        have hb04 := hd.below hb03
        go_wp2_with fail
        refine (HAW.out w4).mono ?_
        rintro e w5 ⟨rfl, hb5⟩
        go_wp2_with fail
        go_ret
        exact ⟨rfl, hb04.trans (hb5.mono hb04.size)⟩
      case' inr =>
        rw [hwb] at HWW
        clear hwb q7 q8 e1
        go_enter Tryz.func5, Tryz.ntmps5
        go_wp2_with fail
        refine HGG.out.mono ?_
        rintro e w1 ⟨v1, rfl, hown1, hb1⟩
        obtain ⟨A1, c1, rfl, _, _, r1⟩ := own_slice hown1
        clear hown1
        go_wp2_with fail
        refine (HWW.out w1 hb1).mono ?_
        rintro e w2 ⟨rfl, hb2⟩
        have hb02 := hb1.trans (hb2.mono hb1.size)
        have r2 := r1.next hb2
        clear r1 hb1 hb2
        go_wp2_with fail
        go_loopw [12] (fun s12 wr => ∃ k : Nat, k ≤ way ∧ s12 = .int .i64 (k : Int) ∧ Below w.heap.size w wr ∧ Reads wr wr.heap.size 3 A1 m (vs l)) (fun i _ => 6 - (intOf i).toNat)
        case atStart => exact ⟨0, Nat.zero_le _, rfl, hb02, r2⟩
        case round =>
          clear hb02 r2
          obtain ⟨k, hkw, rfl, hb, r2⟩ := hrel
          have hp := HPK.out k A1 c1 wr r2 (by omega)
          have hbk := HBLn.out k
          cases how : ofW (k : Int) kd with
          | false =>
            rw [how, if_neg (by decide), if_neg (by decide)] at hp
            have hne : k ≠ way := fun e => by rw [e, HQ7.out] at how; cases how
            have HPX := Lib.hid hp
            clear hp how
            go_wp2_with fail
            refine HPX.out.mono ?_
            rintro e w3 ⟨v3, rfl, hown3, hb3⟩
            obtain ⟨A3, c3, rfl, _, _, r3⟩ := own_slice hown3
            have hb03 := hb.trans (hb3.mono hb.size)
            have r23 := r2.next hb3
            clear hown3 r3
            go_wp2_with fail
            go_round
            case rel => exact ⟨k + 1, by omega, by go_num, hb03, r23⟩
            case measure => simp [intOf]; omega
          | true =>
            rw [how, if_pos rfl, if_pos rfl] at hp
            have HPX := Lib.hid hp
            clear hp
            have hsm : k = way → sameB (lyB l k) b = true := fun e => sameB_true (by rw [e]; exact HQ8.out)
            obtain ⟨L, hL⟩ : ∃ L, L = lyB l k := ⟨_, rfl⟩
            rw [← hL] at HPX hbk hsm
            cases hs : sameB L b with
            | true =>
              clear hsm how hL
              go_wp2_with fail
              refine HPX.out.mono ?_
              rintro e w3 ⟨v3, rfl, hown3, hb3⟩
              obtain ⟨A3, c3, rfl, _, _, r3⟩ := own_slice hown3
              have hb03 := hb.trans (hb3.mono hb.size)
              clear hown3
              have hc := same_any A3 A L.length c3 n c L b w3 r3 (hr.next hb03) (by omega)
              rw [hs] at hc
              go_wp2_with fail
              refine hc.mono ?_
              rintro e w4 ⟨rfl, hd⟩
              have hb04 := hd.below hb03
              clear hc
              go_wp2_with fail
              refine (HAW.out w4).mono ?_
              rintro e w5 ⟨rfl, hb5⟩
              go_wp2_with fail
              go_ret
              exact ⟨rfl, hb04.trans (hb5.mono hb04.size)⟩
            | false =>
              have hne : k ≠ way := fun e => by rw [hsm e] at hs; cases hs
              clear hsm how hL
              go_wp2_with fail
              refine HPX.out.mono ?_
              rintro e w3 ⟨v3, rfl, hown3, hb3⟩
              obtain ⟨A3, c3, rfl, _, _, r3⟩ := own_slice hown3
              have hb03 := hb.trans (hb3.mono hb.size)
              have r23 := r2.next hb3
              clear hown3
              have hc := same_any A3 A L.length c3 n c L b w3 r3 (hr.next hb03) (by omega)
              rw [hs] at hc
              go_wp2_with fail
              refine hc.mono ?_
              rintro e w4 ⟨rfl, hd⟩
              have hb04 := hd.below hb03
              have r24 := r23.next (hd.below (Below.refl _ _))
              clear hc
              go_wp2_with fail
              go_round
              case rel => exact ⟨k + 1, by omega, by go_num, hb04, r24⟩
              case measure => simp [intOf]; omega
end Go.Proofs.YthlfplljbbnaoaaGreatDoor
