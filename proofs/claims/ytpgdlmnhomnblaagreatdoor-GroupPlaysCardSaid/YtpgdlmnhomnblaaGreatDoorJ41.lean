import Derived.Test.YtpgdlmnhomnblaaGreatDoorJ21
import Derived.Test.YtpgdlmnhomnblaaGreatDoorCkRefLay
import Derived.Test.YtpgdlmnhomnblaaGreatDoorJ20
import Derived.BigQuiet
import Derived.Deep.QuietTactic
import Derived.Deep.RegionLaw
import Derived.Deep.RegionWith
import Derived.Deep.DeepCutAuto
import Derived.Deep.CutBlock
import Derived.Test.YtpgdlmnhomnblaaGreatDoorJ34
import Derived.Test.YtpgdlmnhomnblaaGreatDoorJ24
import Derived.Deep.RegionHeld3
import Derived.Test.YtpgdlmnhomnblaaGreatDoorJ1
import Derived.Deep.MidRow
import Derived.Test.YtpgdlmnhomnblaaGreatDoorJ29
import Derived.Test.YtpgdlmnhomnblaaGreatDoorJ2
namespace Go.Proofs.YtpgdlmnhomnblaaGreatDoor
open Go.RowKit
set_option linter.unusedVariables false
set_option linter.unusedSimpArgs false
set_option maxRecDepth 100000
theorem ckE_short {kd : Int} {l : List Vl} (hn : l.length ≤ 65536) (hq : ∀ v ∈ l, v.2.2.length ≤ 65536) : ((∃ v ∈ l, rgt kd v = false) → ckE kd l = 11) ∧ ((∀ v ∈ l, rgt kd v = true) → ckE kd l = 0) := by
  have h1 : ¬ ∃ v ∈ l, 65536 < v.2.2.length := by
    rintro ⟨v, hv, e⟩
    have := hq v hv
    omega
  constructor
  · intro h
    unfold ckE
    rw [if_neg (by omega), if_neg h1, if_pos h]
  · intro h
    exact ckE_of hn hq h
set_option maxHeartbeats 1000000 in
theorem refCheck_any (A : Option Addr) (n c : Nat) (kd : Int) (l : List Vl) (w : World) (hr : Reads w w.heap.size 3 A n (vs l)) (hn : n ≤ 65536) (hq : ∀ v ∈ l, v.2.2.length ≤ 65536) :
    Calls Tryz.prog 101 #[.slice A n c, .int .i64 kd] w fun e w' => e = .returned (.int .i64 (ckE kd l)) ∧ Below w.heap.size w w' := by
  have e1 : l.length = n := by have := hr.1; rw [vs_length] at this; omega
  obtain ⟨q1, q2⟩ := ckE_short (kd := kd) (l := l) (by omega) hq
  obtain ⟨r, hr0⟩ : ∃ r, ckE kd l = r := ⟨_, rfl⟩
  rw [hr0] at q1 q2 ⊢
  have HE : Hid (l.length = n) := Lib.hid e1
  have HQ := Lib.hid hq
  have Q1 := Lib.hid q1
  have Q2 := Lib.hid q2
  clear e1 hq hr0 q1 q2
  go_enter Tryz.func101, Tryz.ntmps101
  go_wp2_with fail
  go_loop [5] (fun i => ∃ k : Nat, k ≤ n ∧ i = .int .i64 (k : Int)) (fun i => n - (intOf i).toNat)
  case atStart => exact ⟨0, Nat.zero_le _, rfl⟩
  case round =>
    obtain ⟨k, hk, rfl⟩ := hrel
    by_cases hlt : k < n
    · obtain ⟨⟨v0, v1, z⟩, hz⟩ : ∃ v, l[k]? = some v := ⟨_, List.getElem?_eq_getElem (by rw [HE.out]; omega)⟩
      obtain ⟨b, o, rfl, hb, x0, x1, x2⟩ := hr.val hz
      have hzs : (⟨z.toArray⟩ : ByteArray).size = z.length := by simp [ByteArray.size]
      have hzl : z.length ≤ 65536 := HQ.out (v0, v1, z) (List.mem_of_getElem? hz)
      clear hz
      go_wp2_with fail
      go_round
      case rel => exact ⟨k + 1, by omega, by go_num⟩
      case measure => simp [intOf]; omega
    · go_wp2_with fail
      clear hk hlt
      go_loopw [6] (fun i wr => ∃ j : Nat, j ≤ n ∧ i = .int .i64 (j : Int) ∧ Hid (∀ v ∈ l.take j, rgt kd v = true) ∧ Below w.heap.size w wr) (fun i _ => n - (intOf i).toNat)
      case atStart => exact ⟨0, Nat.zero_le _, rfl, Lib.hid (by simp), Below.refl _ _⟩
      case round =>
        obtain ⟨j, hj, rfl, HA, hbl⟩ := hrel
        by_cases hlt : j < n
        · obtain ⟨⟨v0, v1, z⟩, hz⟩ : ∃ v, l[j]? = some v := ⟨_, List.getElem?_eq_getElem (by rw [HE.out]; omega)⟩
          obtain ⟨b, o, rfl, hb, x0, x1, x2⟩ := (hr.below hbl).val hz
          have HZ := Lib.hid hz
          clear hz
          go_wp2_with fail
          have hc := refRight_any (v0, v1, z) kd wr
          obtain ⟨g, hg⟩ : ∃ g, rgt kd (v0, v1, z) = g := ⟨_, rfl⟩
          rw [hg] at hc
          have HG := Lib.hid hg
          clear hg
          refine hc.mono ?_
          rintro e w1 ⟨rfl, hb1⟩
          have hbb := hbl.trans (hb1.mono hbl.size)
          clear hc
          cases g with
          | false =>
            have HR : Hid (r = 11) := Lib.hid (Q1.out ⟨_, List.mem_of_getElem? HZ.out, HG.out⟩)
            go_wp2_with fail
            go_ret
            exact ⟨by rw [HR.out]; rfl, hbb⟩
          | true =>
            have HA2 : Hid (∀ v ∈ l.take (j + 1), rgt kd v = true) := Lib.hid (by
              rw [take_snoc HZ.out]
              intro s hs
              rcases List.mem_append.1 hs with hs | hs
              · exact HA.out s hs
              · rw [List.mem_singleton] at hs; subst hs; exact HG.out)
            go_wp2_with fail
            go_round
            case rel => exact ⟨j + 1, by omega, by go_num, HA2, hbb⟩
            case measure => simp [intOf]; omega
        · obtain rfl : j = n := by omega
          have HR : Hid (r = 0) := Lib.hid (Q2.out (by have := HA.out; rwa [List.take_of_length_le (by rw [HE.out]; exact Nat.le_refl _)] at this))
          go_wp2_with fail
          go_ret
          exact ⟨by rw [HR.out]; rfl, hbl⟩
end Go.Proofs.YtpgdlmnhomnblaaGreatDoor
namespace Go.Proofs.YtpgdlmnhomnblaaGreatDoor
open Go.RowKit
set_option linter.unusedVariables false
set_option linter.unusedSimpArgs false
set_option maxRecDepth 100000
theorem lyB_length {way : Nat} {l : List Vl} (hl : l.length ≤ 65536) (hi : ∀ v ∈ l, In64 v.2.1) (ht : ∀ v ∈ l, v.2.2.length ≤ 65536) : (lyB l way).length ≤ 4295770000 := by
  have h1 := frm_length (way := way) hl hi ht
  have h2 : (headB l).length ≤ 8194 := by
    unfold headB
    split
    · simp
    · rw [List.length_cons, setB_length]; unfold siz; omega
  unfold lyB
  rw [List.length_append, List.length_append, List.length_singleton]
  omega
set_option maxHeartbeats 2000000 in
theorem refBest_any (A : Option Addr) (n c : Nat) (kd : Int) (l : List Vl) (w : World) (hr : Reads w w.heap.size 3 A n (vs l)) (hn : n ≤ 65536) (hi : ∀ v ∈ l, In64 v.2.1) (hq : ∀ v ∈ l, v.2.2.length ≤ 65536) :
    Calls Tryz.prog 102 #[.slice A n c, .int .i64 kd] w fun e w' => e = .returned (.int .i64 (bestW kd l)) ∧ Below w.heap.size w w' := by
  have hCK := refCheck_any A n c kd l w hr hn hq
  have e1 : l.length = n := by have := hr.1; rw [vs_length] at this; omega
  have hn2 : Hid (l.length ≤ 65536 ∧ (∀ v ∈ l, In64 v.2.1) ∧ ∀ v ∈ l, v.2.2.length ≤ 65536) := Lib.hid ⟨by omega, hi, hq⟩
  clear e1
  obtain ⟨r, hr0⟩ : ∃ r, bestW kd l = r := ⟨_, rfl⟩
  have h1 : (kd ≠ 1 ∧ kd ≠ 2) ∨ ckE kd l ≠ 0 → r = -1 := fun h => by rw [← hr0]; unfold bestW; rw [if_pos h]
  have h2 : ckE kd l = 0 → kd = 1 ∨ kd = 2 → r = bst kd l 6 := fun h h' => by rw [← hr0]; unfold bestW; rw [if_neg (by omega)]
  have hLay : ckE kd l = 0 → ∀ (W : World) (h : Below w.heap.size w W) (way : Nat), way ≤ 5 → Calls Tryz.prog 103 #[.slice A n c, .int .i64 (way : Int)] W (New W (bs (lyB l way)) (lyB l way).length) := fun hc W h way hw => refLay_any A n c way kd l W (hr.next h) hn hi hc hw
  rw [hr0]
  obtain ⟨f, hf⟩ : ∃ f, ckE kd l = f := ⟨_, rfl⟩
  rw [hf] at hCK h1 h2 hLay
  have HCK := Lib.hid hCK
  have H2 := Lib.hid h2
  have HLay := Lib.hid hLay
  clear hCK h2 hLay hf hr0 hi hq
  go_enter Tryz.func102, Tryz.ntmps102
  by_cases hk : kd = 1 ∨ kd = 2
  case neg =>
    have hk1 : ¬ kd = 1 := fun e => hk (.inl e)
    have hk2 : ¬ kd = 2 := fun e => hk (.inr e)
    obtain rfl := h1 (.inl ⟨hk1, hk2⟩)
    go_wp2_with fail
    go_ret
    exact ⟨rfl, Below.refl _ _⟩
  case pos =>
    by_cases hf : f = 0
    case neg =>
      obtain rfl := h1 (.inr hf)
      rcases hk with rfl | rfl
      all_goals
        go_wp2_with (go_at_call 101; refine HCK.out.mono ?_; rintro e w1 ⟨rfl, hb1⟩)
        go_ret
        exact ⟨rfl, hb1⟩
    case pos =>
      subst hf
      obtain ⟨B, hB⟩ : ∃ B, B = bst kd l := ⟨_, rfl⟩
      obtain ⟨G, hG⟩ : ∃ G : Nat → Bool, G = fun k : Nat => ofW (k : Int) kd := ⟨_, rfl⟩
      have HR : Hid (r = B 6) := Lib.hid (by rw [hB]; exact H2.out rfl hk)
      have HL := Lib.hid (HLay.out rfl)
      have HOf : Hid (∀ (k : Nat) (W : World), Calls Tryz.prog 51 #[.int .i64 (k : Int), .int .i64 kd] W fun e w' => e = .returned (.bool (G k)) ∧ W = w') := Lib.hid (fun k W => by rw [hG]; exact refOf_any _ _ _)
      have H0 : B 0 = -1 := by rw [hB]; rfl
      have HS1 : Hid (∀ k, G k = false → B (k + 1) = B k) := Lib.hid fun k h => by
        rw [hG] at h
        rw [hB, bst, if_neg (by rintro ⟨e, _⟩; exact absurd (e.symm.trans h) (by decide))]
      have HS2 : Hid (∀ k, G k = true → B k < 0 → B (k + 1) = (k : Int)) := Lib.hid fun k h h' => by
        rw [hG] at h
        rw [hB] at h' ⊢
        rw [bst, if_pos ⟨h, .inl h'⟩]
      have HS3 : Hid (∀ k (b : Nat), G k = true → B k = (b : Int) → (lyB l k).length < (lyB l b).length → B (k + 1) = (k : Int)) := Lib.hid fun k b h h' h2 => by
        rw [hG] at h
        rw [hB] at h' ⊢
        rw [bst, if_pos ⟨h, .inr (by rw [h', Int.toNat_natCast]; exact h2)⟩]
      have HS4 : Hid (∀ k (b : Nat), B k = (b : Int) → ¬ (lyB l k).length < (lyB l b).length → B (k + 1) = (b : Int)) := Lib.hid fun k b h' h2 => by
        rw [hB] at h' ⊢
        rw [bst, if_neg, h']
        rintro ⟨_, e⟩
        rcases e with e | e
        · omega
        · rw [h', Int.toNat_natCast] at e; exact h2 e
      have HS5 : Hid (∀ k, B k = -1 ∨ ∃ b : Nat, B k = (b : Int) ∧ b < k) := Lib.hid fun k => by
        rw [hB]
        rcases bst_ok kd l k with ⟨h, _⟩ | ⟨h, h', _⟩
        · exact .inl h
        · exact .inr ⟨(bst kd l k).toNat, by omega, by omega⟩
      have HLN : Hid (∀ k, k ≤ 5 → (lyB l k).length ≤ 140737488355328) := Lib.hid (by
        intro k hk5
        have := lyB_length (way := k) hn2.out.1 hn2.out.2.1 hn2.out.2.2
        omega)
      clear h1 H2 HLay hB hG
      rcases hk with rfl | rfl
      all_goals
        go_wp2_with (go_at_call 101; refine HCK.out.mono ?_; rintro e w1 ⟨rfl, hb1⟩)
        go_loopw [5, 6] (fun s5 s6 wr => ∃ k : Nat, k ≤ 6 ∧ s6 = .int .i64 (k : Int) ∧ s5 = .int .i64 (B k) ∧ Below w.heap.size w wr) (fun _ i _ => 6 - (intOf i).toNat)
        case atStart => exact ⟨0, by omega, rfl, by rw [H0], hb1⟩
        case round =>
          clear hb1
          obtain ⟨k, hk, rfl, rfl, hb⟩ := hrel
          by_cases hlt : k < 6
          · cases hg : G k with
            | false =>
              have hc := HOf.out k wr
              rw [hg] at hc
              have HE := Lib.hid (HS1.out k hg)
              clear hg
              go_wp2_with (go_at_call 51; refine hc.mono ?_; rintro e w2 ⟨rfl, rfl⟩)
              go_round
              case rel => exact ⟨k + 1, by omega, by go_num, by rw [HE.out], hb⟩
              case measure => simp [intOf]; omega
            | true =>
              have hc := HOf.out k wr
              rw [hg] at hc
              rcases HS5.out k with hBk | ⟨b, hBk, hbk⟩
              · have HE := Lib.hid (HS2.out k hg (by omega))
                rw [hBk]
                clear hg hBk
                go_wp2_with (go_at_call 51; refine hc.mono ?_; rintro e w2 ⟨rfl, rfl⟩)
                go_round
                case rel => exact ⟨k + 1, by omega, by go_num, by rw [HE.out], hb⟩
                case measure => simp [intOf]; omega
              · have HE3 := Lib.hid (HS3.out k b hg hBk)
                have HE4 := Lib.hid (HS4.out k b hBk)
                have hc1 := HL.out wr hb k (by omega)
                have hm1 := HLN.out k (by omega)
                have hm2 := HLN.out b (by omega)
                rw [hBk]
                obtain ⟨x, hx⟩ : ∃ x, (lyB l k).length = x := ⟨_, rfl⟩
                obtain ⟨y, hy⟩ : ∃ y, (lyB l b).length = y := ⟨_, rfl⟩
                rw [hx] at hc1 HE3 HE4 hm1
                rw [hy] at HE3 HE4 hm2
                have HC2 := Lib.hid (fun (W : World) (h : Below w.heap.size w W) => (show Calls Tryz.prog 103 #[.slice A n c, .int .i64 (b : Int)] W (New W (bs (lyB l b)) y) from by rw [← hy]; exact HL.out W h b (by omega)))
                have HC1 := Lib.hid hc1
                have HOK := Lib.hid hc
                clear hg hBk hx hy hc1 hc
                by_cases hxy : x < y
                all_goals
                  go_wp2_with fail
                  refine HOK.out.mono ?_
                  rintro e w2 ⟨rfl, rfl⟩
                  go_wp2_with fail
                  refine HC1.out.mono ?_
                  intro e w3 hN3
                  obtain ⟨A3, c3, rfl, _, r3, hb3⟩ := hN3.opened
                  have hb03 := hb.trans (hb3.mono hb.size)
                  clear r3 hN3
                  go_wp2_with fail
                  refine (HC2.out _ hb03).mono ?_
                  intro e w4 hN4
                  obtain ⟨A4, c4, rfl, _, r4, hb4⟩ := hN4.opened
                  have hb04 := hb03.trans (hb4.mono hb03.size)
                  clear r4 hN4
                  go_wp2_with fail
                  go_round
                  case rel => first | exact ⟨k + 1, by omega, by go_num, by rw [HE3.out hxy], hb04⟩ | exact ⟨k + 1, by omega, by go_num, by rw [HE4.out hxy], hb04⟩
                  case measure => simp [intOf]; omega
          · obtain rfl : k = 6 := by omega
            go_wp2_with fail
            go_ret
            exact ⟨by rw [HR.out]; rfl, hb⟩
end Go.Proofs.YtpgdlmnhomnblaaGreatDoor
namespace Go.Proofs.YtpgdlmnhomnblaaGreatDoor
open Go.RowKit
set_option linter.unusedVariables false
set_option linter.unusedSimpArgs false
set_option maxRecDepth 100000
set_option maxHeartbeats 2000000 in
theorem refCkPut_any (A : Option Addr) (n c : Nat) (kd way : Int) (l : List Vl) (w : World) (hr : Reads w w.heap.size 3 A n (vs l)) (hn : n ≤ 65536) (hi : ∀ v ∈ l, In64 v.2.1) (hq : ∀ v ∈ l, v.2.2.length ≤ 65536) :
    Calls Tryz.prog 61 #[.slice A n c, .int .i64 kd, .int .i64 way] w (CkPut w kd way l) := by
  have hCK := fun (W : World) (h : Below w.heap.size w W) => refCheck_any A n c kd l W (hr.next h) hn hq
  have hBE := fun (W : World) (h : Below w.heap.size w W) => refBest_any A n c kd l W (hr.next h) hn hi hq
  have hLay : ckE kd l = 0 → ∀ (W : World) (h : Below w.heap.size w W) (wn : Nat), wn ≤ 5 → Calls Tryz.prog 103 #[.slice A n c, .int .i64 (wn : Int)] W (New W (bs (lyB l wn)) (lyB l wn).length) := fun hc W h wn hw => refLay_any A n c wn kd l W (hr.next h) hn hi hc hw
  have hOf := refOf_any way kd
  have k1 : (kd ≠ 1 ∧ kd ≠ 2) ∨ (way ≠ -1 ∧ ofW way kd = false) → cpE kd way l = 1 := fun h => by unfold cpE; rw [if_pos h]
  have k2 : (kd = 1 ∨ kd = 2) → (way = -1 ∨ ofW way kd = true) → cpE kd way l = ckE kd l := fun h h' => by
    unfold cpE
    rw [if_neg]
    rintro (e | ⟨e, e'⟩)
    · omega
    · rcases h' with h' | h'
      · exact e h'
      · rw [h'] at e'; cases e'
  have k3 := fun (h : cpE kd way l = 0) => (cpE_ok h)
  have k4 : cpW kd way l = (if way = -1 then bestW kd l else way).toNat := rfl
  have HLY := Lib.hid hLay
  have HCK := Lib.hid hCK
  have HBE := Lib.hid hBE
  have HOF := Lib.hid hOf
  have K2 := Lib.hid k2
  have K3 := Lib.hid k3
  have K4 := Lib.hid k4
  clear hLay hCK hBE hOf k2 k3 k4 hi hq
  go_enter Tryz.func61, Tryz.ntmps61
  by_cases hk : kd = 1 ∨ kd = 2
  case neg =>
    have hk1 : ¬ kd = 1 := fun e => hk (.inl e)
    have hk2 : ¬ kd = 2 := fun e => hk (.inr e)
    have KE := Lib.hid (k1 (.inl ⟨hk1, hk2⟩))
    clear k1 hk
    go_wp2_with fail
    go_ret2
    exact CkPut.no KE.out (by decide) (Below.refl _ _)
  case pos =>
    by_cases hw : way = -1
    case pos =>
      have KE := Lib.hid (K2.out hk (.inl hw))
      have K5 : Hid (cpW kd way l = (bestW kd l).toNat) := Lib.hid (by rw [K4.out, if_pos hw])
      have HK := Lib.hid hk
      subst hw
      obtain ⟨f, hf⟩ : ∃ f, ckE kd l = f := ⟨_, rfl⟩
      rw [hf] at HCK KE HLY
      by_cases hf0 : f = 0
      case neg =>
        clear k1 hf
        rcases hk with rfl | rfl
        all_goals
          go_wp2_with fail
          refine (HCK.out w (Below.refl _ _)).mono ?_
          rintro e w1 ⟨rfl, hb1⟩
          go_wp2_with fail
          go_ret2
          exact CkPut.no KE.out hf0 hb1
      case pos =>
        subst hf0
        have HL2 := Lib.hid (HLY.out rfl)
        clear HLY
        have hB := ofW_range (bestW_ok hk hf).1
        obtain ⟨b, hb⟩ : ∃ b : Nat, bestW kd l = (b : Int) := ⟨(bestW kd l).toNat, by omega⟩
        have hb5 : b ≤ 5 := by omega
        rw [hb] at HBE K5
        clear k1 hf hB hb
        rcases hk with rfl | rfl
        all_goals
          go_wp2_with fail
          refine (HCK.out w (Below.refl _ _)).mono ?_
          rintro e w1 ⟨rfl, hb1⟩
          go_wp2_with fail
          refine (HBE.out w1 hb1).mono ?_
          rintro e w2 ⟨rfl, hb2⟩
          have hb02 := hb1.trans (hb2.mono hb1.size)
          go_wp2_with fail
          refine (HL2.out w2 hb02 b hb5).mono ?_
          rintro e w3 ⟨v, rfl, hown, hb3⟩
          go_wp2_with fail
          go_ret2
          exact CkPut.yes KE.out K5.out (own_base hown hb02.size) (hb02.trans (hb3.mono hb02.size))
    case neg =>
      cases ho : ofW way kd with
      | false =>
        have KE := Lib.hid (k1 (.inr ⟨hw, ho⟩))
        rw [ho] at HOF
        clear k1 ho
        rcases hk with rfl | rfl
        all_goals
          go_wp2_with fail
          refine (HOF.out w).mono ?_
          rintro e w1 ⟨rfl, rfl⟩
          go_wp2_with fail
          go_ret2
          exact CkPut.no KE.out (by decide) (Below.refl _ _)
      | true =>
        have KE := Lib.hid (K2.out hk (.inr ho))
        have hR := ofW_range ho
        obtain ⟨b, rfl⟩ : ∃ b : Nat, way = (b : Int) := ⟨way.toNat, by omega⟩
        have K5 : Hid (cpW kd (b : Int) l = b) := Lib.hid (by rw [K4.out, if_neg hw, Int.toNat_natCast])
        have hb5 : b ≤ 5 := by omega
        rw [ho] at HOF
        obtain ⟨f, hf⟩ : ∃ f, ckE kd l = f := ⟨_, rfl⟩
        rw [hf] at HCK KE HLY
        by_cases hf0 : f = 0
        case neg =>
          clear k1 hf ho hR
          rcases hk with rfl | rfl
          all_goals
            go_wp2_with fail
            refine (HOF.out w).mono ?_
            rintro e w0 ⟨rfl, rfl⟩
            go_wp2_with fail
            refine (HCK.out w (Below.refl _ _)).mono ?_
            rintro e w1 ⟨rfl, hb1⟩
            go_wp2_with fail
            go_ret2
            exact CkPut.no KE.out hf0 hb1
        case pos =>
          subst hf0
          have HL2 := Lib.hid (HLY.out rfl)
          clear HLY
          clear k1 hf ho hR
          rcases hk with rfl | rfl
          all_goals
            go_wp2_with fail
            refine (HOF.out w).mono ?_
            rintro e w0 ⟨rfl, rfl⟩
            go_wp2_with fail
            refine (HCK.out w (Below.refl _ _)).mono ?_
            rintro e w1 ⟨rfl, hb1⟩
            go_wp2_with fail
            refine (HL2.out w1 hb1 b hb5).mono ?_
            rintro e w3 ⟨v, rfl, hown, hb3⟩
            go_wp2_with fail
            go_ret2
            exact CkPut.yes KE.out K5.out (own_base hown hb1.size) (hb1.trans (hb3.mono hb1.size))
end Go.Proofs.YtpgdlmnhomnblaaGreatDoor
namespace Go.Proofs.YtpgdlmnhomnblaaGreatDoor
open Go.RowKit
set_option linter.unusedVariables false
set_option linter.unusedSimpArgs false
set_option maxRecDepth 100000
section
variable {w : World} {S A D : Option Addr} {m cs n c cd : Nat} {f : Nat → Bool} {sl : List Cl} {rows : List (List Vl)}
theorem refLive_any (hr : Reads w w.heap.size 1 D n (bl f n)) (hn : n ≤ 65536) :
    Calls Tryz.prog 29 #[.agg #[.slice S m cs, .slice A n c, .slice D n cd]] w fun e w' => e = .returned (.int .i64 ((n : Int) - (cnt f n : Int))) ∧ Below w.heap.size w w' := by
  have HR := Lib.hid fun (W : World) (hb : Below w.heap.size w W) => refRank_any D n cd f (n : Int) W (hr.next hb) hn
  have hmin : min n ((n : Int)).toNat = n := by rw [Int.toNat_natCast, Nat.min_self]
  have hc := cnt_le f n
  obtain ⟨k, hk⟩ : ∃ k, cnt f n = k := ⟨_, rfl⟩
  have b0 := (Below.refl w.heap.size w).alloc (Nat.le_refl _) (.cells #[.slice S m cs, .slice A n c, .slice D n cd] 33)
  have k0 := Blk.new w 33 #[.slice S m cs, .slice A n c, .slice D n cd]
  rw [hmin] at HR
  rw [hk] at hc HR ⊢
  clear hr hmin hk
  go_enter Tryz.func29, Tryz.ntmps29
  go_upto_region 1 with fail
  obtain ⟨W0, hW0⟩ : ∃ q, w.alloc (.cells #[.slice S m cs, .slice A n c, .slice D n cd] 33) = q := ⟨_, rfl⟩
  rw [hW0] at b0 k0 ⊢
  have x2 := k0.cell 2
  simp only [List.getElem?_toArray, List.getElem?_cons_zero, List.getElem?_cons_succ] at x2
  have HB0 := Lib.hid b0
  have hlt := b0.size
  have g1 : Hid (Yields W0.heap.size W0 56 #[.slice D n cd, .int .i64 (n : Int)] (.int .i64 (k : Int))) := Lib.hid fun V hb => (HR.out V (HB0.out.trans (hb.mono hlt))).mono fun e w' ⟨he, hw⟩ => ⟨he, hw ▸ hb⟩
  have y1 := cell_regrown x2
  have hsub : IntKind.i64.wrap ((n : Int) - (k : Int)) = (n : Int) - (k : Int) := IntWalk.i64_in _ (by omega)
  clear hW0 b0 k0 HR
  refine wp_region_quiet_below (by kernel_rfl) (by kernel_rfl) ?_
  repeat (go_big_quiet_step (first | (go_at_call 56; with_reducible exact g1.out.quiet _ _)))
  refine wpQuiet_nil ?_
  intro V hV
  have hbp : Below W0.heap.size W0 V := by obtain ⟨pp, e⟩ := hV; subst e; exact below_regrown W0 pp.d pp.os
  have HBP := Lib.hid (HB0.out.trans (hbp.mono hlt))
  clear hV g1 y1 x2 hbp HB0
  go_wp2_with fail
  go_ret
  exact ⟨rfl, HBP.out⟩
end
end Go.Proofs.YtpgdlmnhomnblaaGreatDoor
namespace Go.Proofs.YtpgdlmnhomnblaaGreatDoor
open Go.RowKit
set_option linter.unusedVariables false
set_option linter.unusedSimpArgs false
set_option maxRecDepth 100000
section
variable {w : World} {S A D : Option Addr} {m cs n c cd : Nat} {sl : List Cl} {rows : List (List Vl)}
set_option maxHeartbeats 20000000 in
theorem refChunk_any {ci : Nat} {kd wy : Int} {nu : Bool} (hS : Reads w w.heap.size 3 S m (cls sl)) (hm : m ≤ 65536) (hV : VV w A rows) (hrn : rows.length = n) (hn : n ≤ 65536) (hz : sl[ci]? = some (kd, nu, wy)) (hl : ∀ r ∈ rows, ci < r.length ∧ r.length ≤ 65536) (hi : ∀ v ∈ colV rows ci, In64 v.1 ∧ In64 v.2.1) (hq : ∀ v ∈ colV rows ci, v.2.2.length ≤ 65536) :
    Calls Tryz.prog 37 #[.agg #[.slice S m cs, .slice A n c, .slice D n cd], .int .i64 (ci : Int)] w fun e w' => ∃ v, e = .returned v ∧ w'.ownsRow w.heap.size 5 1 v (cpB kd wy (colV rows ci)).length (bs (cpB kd wy (colV rows ci))) ∧ Below w.heap.size w w' := by
  have hcm : ci < m := by have h1 := (List.getElem?_eq_some_iff.1 hz).1; have h2 := hS.1; rw [cls_length] at h2; omega
  have HC := Lib.hid fun (W : World) (hb : Below w.heap.size w W) => column_any (A := A) (cp := c) (ci := ci) hrn (hV.next hb) hn (by omega) hl
  have HP := Lib.hid fun (W : World) (hb : Below w.heap.size w W) (A : Option Addr) (cc : Nat) (hr : Reads W W.heap.size 3 A n (vs (colV rows ci))) => refCkPut_any A n cc kd wy (colV rows ci) W hr hn (fun v hv => (hi v hv).2) hq
  obtain ⟨sb, so, hS', hsb, t0, t1, t2⟩ := hS.col hz
  subst hS'
  obtain ⟨L, hL⟩ : ∃ L, colV rows ci = L := ⟨_, rfl⟩
  rw [hL] at HC HP ⊢
  have b0 := (Below.refl w.heap.size w).alloc (Nat.le_refl _) (.cells #[.slice (some ⟨sb, so, none⟩) m cs, .slice A n c, .slice D n cd] 33)
  have k0 := Blk.new w 33 #[.slice (some ⟨sb, so, none⟩) m cs, .slice A n c, .slice D n cd]
  clear hS hV hi hq hl hz hL
  go_enter Tryz.func37, Tryz.ntmps37
  go_upto_region 1 with fail
  obtain ⟨W0, hW0⟩ : ∃ q, w.alloc (.cells #[.slice (some ⟨sb, so, none⟩) m cs, .slice A n c, .slice D n cd] 33) = q := ⟨_, rfl⟩
  rw [hW0] at b0 k0 ⊢
  have hb1 : Below w.heap.size w W0.drew := Below.drew b0
  have K1 : Blk W0.drew w.heap.size 33 #[.slice (some ⟨sb, so, none⟩) m cs, .slice A n c, .slice D n cd] := k0.drew
  have x0 := K1.cell 0; have x1 := K1.cell 1
  simp only [List.getElem?_toArray, List.getElem?_cons_zero, List.getElem?_cons_succ] at x0 x1
  have y0 := (hb1.cell (p := ⟨sb, so + ci * 3, none⟩) hsb).trans t0
  have y2 := (hb1.cell (p := ⟨sb, so + ci * 3 + 2, none⟩) hsb).trans t2
  have hcol := HC.out _ hb1
  clear hW0 b0 k0
  go_region_law (first
    | (go_simp; go_at_call 59; refine hcol.mono ?_
       rintro e V1 ⟨v1, rfl, ho1, hv1⟩
       obtain ⟨A1, c1, rfl, _, _, hr1⟩ := own_slice ho1
       have hb2 := hb1.trans (hv1.mono hb1.size)
       have K2 := K1.below hv1 K1.lt
       have p0 := K2.cell 0; have p1 := K2.cell 1
       simp only [List.getElem?_toArray, List.getElem?_cons_zero, List.getElem?_cons_succ] at p0 p1
       have q0 := (hb2.cell (p := ⟨sb, so + ci * 3, none⟩) hsb).trans t0
       have q2 := (hb2.cell (p := ⟨sb, so + ci * 3 + 2, none⟩) hsb).trans t2
       have hpu := HP.out V1 hb2 A1 c1 hr1
       show _)
    | (go_simp; go_at_call 61; refine hpu.mono ?_
       rintro e V2 ⟨v2, rfl, ho2, hv2⟩
       have hb3 := hb2.trans (hv2.mono hb2.size)
       have ho3 := own_base ho2 hb2.size
       show _))
  all_goals
    have HO := Lib.hid ho3; have HB := Lib.hid hb3
    clear ho1 ho2 ho3 hb3 hb2 hv1 hv2 K1 K2 x0 x1 y0 y2 p0 p1 q0 q2 hcol hpu hr1
    go_wp2_with fail
    go_ret
    exact ⟨_, rfl, HO.out, HB.out⟩
end
end Go.Proofs.YtpgdlmnhomnblaaGreatDoor
namespace Go.Proofs.YtpgdlmnhomnblaaGreatDoor
open Go.RowKit
set_option linter.unusedVariables false
set_option linter.unusedSimpArgs false
theorem fill_step (place : Nat → Option (Nat × Nat)) (cells : List Value) (i off size : Nat) (v : Value) (rest : List (Nat × Value)) (hp : place i = some (off, size)) (hs : v.cells.size = size) (hc : off + size ≤ cells.length) :
    Instr.fill place cells.toArray ((i, v) :: rest) = Instr.fill place (cells.take off ++ v.cells.toList ++ cells.drop (off + size)).toArray rest := by
  rw [Instr.fill]
  simp only [hp]
  rw [if_neg (by simp [hs]; omega)]
  congr 1
  have h1 := fold_setT off v.cells.toList 0 cells.toArray (by simp [hs]; omega)
  simp only [Nat.add_zero, Array.length_toList, hs] at h1
  rw [← Array.foldl_toList, Array.toList_zipIdx]
  exact h1
end Go.Proofs.YtpgdlmnhomnblaaGreatDoor
namespace Go.Proofs.YtpgdlmnhomnblaaGreatDoor
open Go.RowKit
set_option linter.unusedVariables false
set_option linter.unusedSimpArgs false
theorem wp_buildV {P : Program} {o : Oper} {a : Act} {w : World} {K : Act → World → Prop} {Q : Exit → Act → World → Prop} (t : TypeId) (parts : Array (Nat × Operand)) (ho : o.op = .build t parts)
    (vs : Array (Nat × Value)) (hp : parts.map (fun (i, x) => (i, a.eval x)) = vs) (V : Value) (hv : (Instr.build t vs).run P w = .ok V w) (h : K (a.put o.dst V) w) : o.wp P a w K Q := by
  unfold Oper.wp execOp
  simp only [ho, hp, Sem.run_bind, hv, Result.andThen_ok, Sem.run_pure]
  exact h
theorem with_states {P : Program} {md : Region.Mode} {ops : Array Oper} {Q : Exit → Act → World → Prop} {S : World → Prop} {fuel : Nat} {listed : Array Bool} {a : Act} {w : World}
    (h : ∀ (R : Nat → Array Bool → Act → World → Prop) (a0 : Act), wpAnyH P md ops Q S = R → a = a0 → R fuel listed a0 w) : wpAnyH P md ops Q S fuel listed a w := h _ _ rfl rfl
end Go.Proofs.YtpgdlmnhomnblaaGreatDoor
namespace Go.Proofs.YtpgdlmnhomnblaaGreatDoor
open Go.RowKit
set_option linter.unusedVariables false
set_option linter.unusedSimpArgs false
set_option maxRecDepth 100000
theorem hash_size (d : List Nat) (h : d.length = 32) : (Tryz.prog.info? 39).map (·.size) = some (bs d).length := by rw [bs_length, h]; exact (zero_of_info info_hash).2
theorem hash_ok (d : List Nat) (h : d.length = 32) : ∃ V : Array Value, (bs d).toArray = V ∧ V.size = 32 ∧ V.all (·.oneCell') = true ∧ (Tryz.prog.info? 39).map (·.size) = some V.size :=
  ⟨_, rfl, by simp [bs_length, h], all_oneCell_toArray (bs_one d), by rw [List.size_toArray]; exact hash_size d h⟩
theorem Blk.range {w : World} {g : Nat} {t : TypeId} {l : List Value} (h : Blk w g t l.toArray) : w.rangeAt g 0 l := fun j v hv => by
  rw [Nat.zero_add, h.cell]
  simpa using hv
end Go.Proofs.YtpgdlmnhomnblaaGreatDoor
