/- Texts joined: CkRefChk CkRefBest CkRefPut VGreat CkPuts. -/
import Derived.Test.YthlfplljbbnaoaaGreatDoorK1
import Derived.Test.YthlfplljbbnaoaaGreatDoorK3
import Derived.Test.YthlfplljbbnaoaaGreatDoorJ8
import Derived.Test.YthlfplljbbnaoaaGreatDoorJ5
import Derived.Test.YthlfplljbbnaoaaGreatDoorJ9
/- Contract of the document's Check of a column's values: why they can't be a chunk's. Nothing that was there changes. -/
namespace Go.Proofs.YthlfplljbbnaoaaGreatDoor
open Go.RowKit
set_option linter.unusedVariables false
set_option linter.unusedSimpArgs false
set_option maxRecDepth 100000

theorem ckE_short {kd : Int} {l : List Vl} (hn : l.length ≤ 65536) (hq : ∀ v ∈ l, v.2.2.length ≤ 65536) : ((∃ v ∈ l, rgt kd v = false) → ckE kd l = 11) ∧ ((∀ v ∈ l, rgt kd v = true) → ckE kd l = 0) := by
  have h1 : ¬ ∃ v ∈ l, 65536 < v.2.2.length := by
    rintro ⟨v, hv, e⟩
    have := hq v hv
    omega
  constructor
  · intro h
    unfold ckE
    rw [if_neg (by omega), if_neg h1, if_pos h]
  · intro h
    exact ckE_of hn hq h
set_option maxHeartbeats 1000000 in
theorem refCheck_any (A : Option Addr) (n c : Nat) (kd : Int) (l : List Vl) (w : World) (hr : Reads w w.heap.size 3 A n (vs l)) (hn : n ≤ 65536) (hq : ∀ v ∈ l, v.2.2.length ≤ 65536) :
    Calls Tryz.prog 23 #[.slice A n c, .int .i64 kd] w fun e w' => e = .returned (.int .i64 (ckE kd l)) ∧ Below w.heap.size w w' := by
  have e1 : l.length = n := by have := hr.1; rw [vs_length] at this; omega
  obtain ⟨q1, q2⟩ := ckE_short (kd := kd) (l := l) (by omega) hq
  obtain ⟨r, hr0⟩ : ∃ r, ckE kd l = r := ⟨_, rfl⟩
  rw [hr0] at q1 q2 ⊢
  have HE : Hid (l.length = n) := Lib.hid e1
  have HQ := Lib.hid hq
  have Q1 := Lib.hid q1
  have Q2 := Lib.hid q2
  clear e1 hq hr0 q1 q2
  go_enter Tryz.func23, Tryz.ntmps23
  go_wp2_with fail
  go_loop [5] (fun i => ∃ k : Nat, k ≤ n ∧ i = .int .i64 (k : Int)) (fun i => n - (intOf i).toNat)
  case atStart => exact ⟨0, Nat.zero_le _, rfl⟩
  case round =>
    obtain ⟨k, hk, rfl⟩ := hrel
    by_cases hlt : k < n
    · obtain ⟨⟨v0, v1, z⟩, hz⟩ : ∃ v, l[k]? = some v := ⟨_, List.getElem?_eq_getElem (by rw [HE.out]; omega)⟩
      obtain ⟨b, o, rfl, hb, x0, x1, x2⟩ := hr.val hz
      have hzs : (⟨z.toArray⟩ : ByteArray).size = z.length := by simp [ByteArray.size]
      have hzl : z.length ≤ 65536 := HQ.out (v0, v1, z) (List.mem_of_getElem? hz)
      clear hz
      go_wp2_with fail
      go_round
      case rel => exact ⟨k + 1, by omega, by go_num⟩
      case measure => simp [intOf]; omega
    · go_wp2_with fail
      clear hk hlt
      go_loopw [6] (fun i wr => ∃ j : Nat, j ≤ n ∧ i = .int .i64 (j : Int) ∧ Hid (∀ v ∈ l.take j, rgt kd v = true) ∧ Below w.heap.size w wr) (fun i _ => n - (intOf i).toNat)
      case atStart => exact ⟨0, Nat.zero_le _, rfl, Lib.hid (by simp), Below.refl _ _⟩
      case round =>
        obtain ⟨j, hj, rfl, HA, hbl⟩ := hrel
        by_cases hlt : j < n
        · obtain ⟨⟨v0, v1, z⟩, hz⟩ : ∃ v, l[j]? = some v := ⟨_, List.getElem?_eq_getElem (by rw [HE.out]; omega)⟩
          obtain ⟨b, o, rfl, hb, x0, x1, x2⟩ := (hr.below hbl).val hz
          have HZ := Lib.hid hz
          clear hz
          go_wp2_with fail
          have hc := refRight_any (v0, v1, z) kd wr
          obtain ⟨g, hg⟩ : ∃ g, rgt kd (v0, v1, z) = g := ⟨_, rfl⟩
          rw [hg] at hc
          have HG := Lib.hid hg
          clear hg
          refine hc.mono ?_
          rintro e w1 ⟨rfl, hb1⟩
          have hbb := hbl.trans (hb1.mono hbl.size)
          clear hc
          cases g with
          | false =>
            have HR : Hid (r = 11) := Lib.hid (Q1.out ⟨_, List.mem_of_getElem? HZ.out, HG.out⟩)
            go_wp2_with fail
            go_ret
            exact ⟨by rw [HR.out]; rfl, hbb⟩
          | true =>
            have HA2 : Hid (∀ v ∈ l.take (j + 1), rgt kd v = true) := Lib.hid (by
              rw [take_snoc HZ.out]
              intro s hs
              rcases List.mem_append.1 hs with hs | hs
              · exact HA.out s hs
              · rw [List.mem_singleton] at hs; subst hs; exact HG.out)
            go_wp2_with fail
            go_round
            case rel => exact ⟨j + 1, by omega, by go_num, HA2, hbb⟩
            case measure => simp [intOf]; omega
        · obtain rfl : j = n := by omega
          have HR : Hid (r = 0) := Lib.hid (Q2.out (by have := HA.out; rwa [List.take_of_length_le (by rw [HE.out]; exact Nat.le_refl _)] at this))
          go_wp2_with fail
          go_ret
          exact ⟨by rw [HR.out]; rfl, hbl⟩
end Go.Proofs.YthlfplljbbnaoaaGreatDoor

/- Contract of the document's best way. -/
namespace Go.Proofs.YthlfplljbbnaoaaGreatDoor
open Go.RowKit
set_option linter.unusedVariables false
set_option linter.unusedSimpArgs false
set_option maxRecDepth 100000

theorem lyB_length {way : Nat} {l : List Vl} (hl : l.length ≤ 65536) (hi : ∀ v ∈ l, In64 v.2.1) (ht : ∀ v ∈ l, v.2.2.length ≤ 65536) : (lyB l way).length ≤ 4295770000 := by
  have h1 := frm_length (way := way) hl hi ht
  have h2 : (headB l).length ≤ 8194 := by
    unfold headB
    split
    · simp
    · rw [List.length_cons, setB_length]; unfold siz; omega
  unfold lyB
  rw [List.length_append, List.length_append, List.length_singleton]
  omega
set_option maxHeartbeats 2000000 in
theorem refBest_any (A : Option Addr) (n c : Nat) (kd : Int) (l : List Vl) (w : World) (hr : Reads w w.heap.size 3 A n (vs l)) (hn : n ≤ 65536) (hi : ∀ v ∈ l, In64 v.2.1) (hq : ∀ v ∈ l, v.2.2.length ≤ 65536) :
    Calls Tryz.prog 13 #[.slice A n c, .int .i64 kd] w fun e w' => e = .returned (.int .i64 (bestW kd l)) ∧ Below w.heap.size w w' := by
  have hCK := refCheck_any A n c kd l w hr hn hq
  have e1 : l.length = n := by have := hr.1; rw [vs_length] at this; omega
  have hn2 : Hid (l.length ≤ 65536 ∧ (∀ v ∈ l, In64 v.2.1) ∧ ∀ v ∈ l, v.2.2.length ≤ 65536) := Lib.hid ⟨by omega, hi, hq⟩
  clear e1
  obtain ⟨r, hr0⟩ : ∃ r, bestW kd l = r := ⟨_, rfl⟩
  have h1 : (kd ≠ 1 ∧ kd ≠ 2) ∨ ckE kd l ≠ 0 → r = -1 := fun h => by rw [← hr0]; unfold bestW; rw [if_pos h]
  have h2 : ckE kd l = 0 → kd = 1 ∨ kd = 2 → r = bst kd l 6 := fun h h' => by rw [← hr0]; unfold bestW; rw [if_neg (by omega)]
  have hLay : ckE kd l = 0 → ∀ (W : World) (h : Below w.heap.size w W) (way : Nat), way ≤ 5 → Calls Tryz.prog 24 #[.slice A n c, .int .i64 (way : Int)] W (New W (bs (lyB l way)) (lyB l way).length) := fun hc W h way hw => refLay_any A n c way kd l W (hr.next h) hn hi hc hw
  rw [hr0]
  obtain ⟨f, hf⟩ : ∃ f, ckE kd l = f := ⟨_, rfl⟩
  rw [hf] at hCK h1 h2 hLay
  have HCK := Lib.hid hCK
  have H2 := Lib.hid h2
  have HLay := Lib.hid hLay
  clear hCK h2 hLay hf hr0 hi hq
  go_enter Tryz.func13, Tryz.ntmps13
  by_cases hk : kd = 1 ∨ kd = 2
  case neg =>
    have hk1 : ¬ kd = 1 := fun e => hk (.inl e)
    have hk2 : ¬ kd = 2 := fun e => hk (.inr e)
    obtain rfl := h1 (.inl ⟨hk1, hk2⟩)
    go_wp2_with fail
    go_ret
    exact ⟨rfl, Below.refl _ _⟩
  case pos =>
    by_cases hf : f = 0
    case neg =>
      obtain rfl := h1 (.inr hf)
      rcases hk with rfl | rfl
      all_goals
        go_wp2_with (go_at_call 23; refine HCK.out.mono ?_; rintro e w1 ⟨rfl, hb1⟩)
        go_ret
        exact ⟨rfl, hb1⟩
    case pos =>
      subst hf
      obtain ⟨B, hB⟩ : ∃ B, B = bst kd l := ⟨_, rfl⟩
      obtain ⟨G, hG⟩ : ∃ G : Nat → Bool, G = fun k : Nat => ofW (k : Int) kd := ⟨_, rfl⟩
      have HR : Hid (r = B 6) := Lib.hid (by rw [hB]; exact H2.out rfl hk)
      have HL := Lib.hid (HLay.out rfl)
      have HOf : Hid (∀ (k : Nat) (W : World), Calls Tryz.prog 22 #[.int .i64 (k : Int), .int .i64 kd] W fun e w' => e = .returned (.bool (G k)) ∧ W = w') := Lib.hid (fun k W => by rw [hG]; exact refOf_any _ _ _)
      have H0 : B 0 = -1 := by rw [hB]; rfl
      have HS1 : Hid (∀ k, G k = false → B (k + 1) = B k) := Lib.hid fun k h => by
        rw [hG] at h
        rw [hB, bst, if_neg (by rintro ⟨e, _⟩; exact absurd (e.symm.trans h) (by decide))]
      have HS2 : Hid (∀ k, G k = true → B k < 0 → B (k + 1) = (k : Int)) := Lib.hid fun k h h' => by
        rw [hG] at h
        rw [hB] at h' ⊢
        rw [bst, if_pos ⟨h, .inl h'⟩]
      have HS3 : Hid (∀ k (b : Nat), G k = true → B k = (b : Int) → (lyB l k).length < (lyB l b).length → B (k + 1) = (k : Int)) := Lib.hid fun k b h h' h2 => by
        rw [hG] at h
        rw [hB] at h' ⊢
        rw [bst, if_pos ⟨h, .inr (by rw [h', Int.toNat_natCast]; exact h2)⟩]
      have HS4 : Hid (∀ k (b : Nat), B k = (b : Int) → ¬ (lyB l k).length < (lyB l b).length → B (k + 1) = (b : Int)) := Lib.hid fun k b h' h2 => by
        rw [hB] at h' ⊢
        rw [bst, if_neg, h']
        rintro ⟨_, e⟩
        rcases e with e | e
        · omega
        · rw [h', Int.toNat_natCast] at e; exact h2 e
      have HS5 : Hid (∀ k, B k = -1 ∨ ∃ b : Nat, B k = (b : Int) ∧ b < k) := Lib.hid fun k => by
        rw [hB]
        rcases bst_ok kd l k with ⟨h, _⟩ | ⟨h, h', _⟩
        · exact .inl h
        · exact .inr ⟨(bst kd l k).toNat, by omega, by omega⟩
      have HLN : Hid (∀ k, k ≤ 5 → (lyB l k).length ≤ 140737488355328) := Lib.hid (by
        intro k hk5
        have := lyB_length (way := k) hn2.out.1 hn2.out.2.1 hn2.out.2.2
        omega)
      clear h1 H2 HLay hB hG
      rcases hk with rfl | rfl
      all_goals
        go_wp2_with (go_at_call 23; refine HCK.out.mono ?_; rintro e w1 ⟨rfl, hb1⟩)
        go_loopw [5, 6] (fun s5 s6 wr => ∃ k : Nat, k ≤ 6 ∧ s6 = .int .i64 (k : Int) ∧ s5 = .int .i64 (B k) ∧ Below w.heap.size w wr) (fun _ i _ => 6 - (intOf i).toNat)
        case atStart => exact ⟨0, by omega, rfl, by rw [H0], hb1⟩
        case round =>
          clear hb1
          obtain ⟨k, hk, rfl, rfl, hb⟩ := hrel
          by_cases hlt : k < 6
          · cases hg : G k with
            | false =>
              have hc := HOf.out k wr
              rw [hg] at hc
              have HE := Lib.hid (HS1.out k hg)
              clear hg
              go_wp2_with (go_at_call 22; refine hc.mono ?_; rintro e w2 ⟨rfl, rfl⟩)
              go_round
              case rel => exact ⟨k + 1, by omega, by go_num, by rw [HE.out], hb⟩
              case measure => simp [intOf]; omega
            | true =>
              have hc := HOf.out k wr
              rw [hg] at hc
              rcases HS5.out k with hBk | ⟨b, hBk, hbk⟩
              · have HE := Lib.hid (HS2.out k hg (by omega))
                rw [hBk]
                clear hg hBk
                go_wp2_with (go_at_call 22; refine hc.mono ?_; rintro e w2 ⟨rfl, rfl⟩)
                go_round
                case rel => exact ⟨k + 1, by omega, by go_num, by rw [HE.out], hb⟩
                case measure => simp [intOf]; omega
              · have HE3 := Lib.hid (HS3.out k b hg hBk)
                have HE4 := Lib.hid (HS4.out k b hBk)
                have hc1 := HL.out wr hb k (by omega)
                have hm1 := HLN.out k (by omega)
                have hm2 := HLN.out b (by omega)
                rw [hBk]
                obtain ⟨x, hx⟩ : ∃ x, (lyB l k).length = x := ⟨_, rfl⟩
                obtain ⟨y, hy⟩ : ∃ y, (lyB l b).length = y := ⟨_, rfl⟩
                rw [hx] at hc1 HE3 HE4 hm1
                rw [hy] at HE3 HE4 hm2
                have HC2 := Lib.hid (fun (W : World) (h : Below w.heap.size w W) => (show Calls Tryz.prog 24 #[.slice A n c, .int .i64 (b : Int)] W (New W (bs (lyB l b)) y) from by rw [← hy]; exact HL.out W h b (by omega)))
                have HC1 := Lib.hid hc1
                have HOK := Lib.hid hc
                clear hg hBk hx hy hc1 hc
                by_cases hxy : x < y
                all_goals
                  go_wp2_with fail
                  refine HOK.out.mono ?_
                  rintro e w2 ⟨rfl, rfl⟩
                  go_wp2_with fail
                  refine HC1.out.mono ?_
                  intro e w3 hN3
                  obtain ⟨A3, c3, rfl, _, r3, hb3⟩ := hN3.opened
                  have hb03 := hb.trans (hb3.mono hb.size)
                  clear r3 hN3
                  go_wp2_with fail
                  refine (HC2.out _ hb03).mono ?_
                  intro e w4 hN4
                  obtain ⟨A4, c4, rfl, _, r4, hb4⟩ := hN4.opened
                  have hb04 := hb03.trans (hb4.mono hb03.size)
                  clear r4 hN4
                  go_wp2_with fail
                  go_round
                  case rel => first | exact ⟨k + 1, by omega, by go_num, by rw [HE3.out hxy], hb04⟩ | exact ⟨k + 1, by omega, by go_num, by rw [HE4.out hxy], hb04⟩
                  case measure => simp [intOf]; omega
          · obtain rfl : k = 6 := by omega
            go_wp2_with fail
            go_ret
            exact ⟨by rw [HR.out]; rfl, hb⟩
end Go.Proofs.YthlfplljbbnaoaaGreatDoor

/- Contract of the document's Put of a column's values. -/
namespace Go.Proofs.YthlfplljbbnaoaaGreatDoor
open Go.RowKit
set_option linter.unusedVariables false
set_option linter.unusedSimpArgs false
set_option maxRecDepth 100000

set_option maxHeartbeats 2000000 in
theorem refCkPut_any (A : Option Addr) (n c : Nat) (kd way : Int) (l : List Vl) (w : World) (hr : Reads w w.heap.size 3 A n (vs l)) (hn : n ≤ 65536) (hi : ∀ v ∈ l, In64 v.2.1) (hq : ∀ v ∈ l, v.2.2.length ≤ 65536) :
    Calls Tryz.prog 10 #[.slice A n c, .int .i64 kd, .int .i64 way] w (CkPut w kd way l) := by
  have hCK := fun (W : World) (h : Below w.heap.size w W) => refCheck_any A n c kd l W (hr.next h) hn hq
  have hBE := fun (W : World) (h : Below w.heap.size w W) => refBest_any A n c kd l W (hr.next h) hn hi hq
  have hLay : ckE kd l = 0 → ∀ (W : World) (h : Below w.heap.size w W) (wn : Nat), wn ≤ 5 → Calls Tryz.prog 24 #[.slice A n c, .int .i64 (wn : Int)] W (New W (bs (lyB l wn)) (lyB l wn).length) := fun hc W h wn hw => refLay_any A n c wn kd l W (hr.next h) hn hi hc hw
  have hOf := refOf_any way kd
  have k1 : (kd ≠ 1 ∧ kd ≠ 2) ∨ (way ≠ -1 ∧ ofW way kd = false) → cpE kd way l = 1 := fun h => by unfold cpE; rw [if_pos h]
  have k2 : (kd = 1 ∨ kd = 2) → (way = -1 ∨ ofW way kd = true) → cpE kd way l = ckE kd l := fun h h' => by
    unfold cpE
    rw [if_neg]
    rintro (e | ⟨e, e'⟩)
    · omega
    · rcases h' with h' | h'
      · exact e h'
      · rw [h'] at e'; cases e'
  have k3 := fun (h : cpE kd way l = 0) => (cpE_ok h)
  have k4 : cpW kd way l = (if way = -1 then bestW kd l else way).toNat := rfl
  have HLY := Lib.hid hLay
  have HCK := Lib.hid hCK
  have HBE := Lib.hid hBE
  have HOF := Lib.hid hOf
  have K2 := Lib.hid k2
  have K3 := Lib.hid k3
  have K4 := Lib.hid k4
  clear hLay hCK hBE hOf k2 k3 k4 hi hq
  go_enter Tryz.func10, Tryz.ntmps10
  by_cases hk : kd = 1 ∨ kd = 2
  case neg =>
    have hk1 : ¬ kd = 1 := fun e => hk (.inl e)
    have hk2 : ¬ kd = 2 := fun e => hk (.inr e)
    have KE := Lib.hid (k1 (.inl ⟨hk1, hk2⟩))
    clear k1 hk
    go_wp2_with fail
    go_ret2
    exact CkPut.no KE.out (by decide) (Below.refl _ _)
  case pos =>
    by_cases hw : way = -1
    case pos =>
      have KE := Lib.hid (K2.out hk (.inl hw))
      have K5 : Hid (cpW kd way l = (bestW kd l).toNat) := Lib.hid (by rw [K4.out, if_pos hw])
      have HK := Lib.hid hk
      subst hw
      obtain ⟨f, hf⟩ : ∃ f, ckE kd l = f := ⟨_, rfl⟩
      rw [hf] at HCK KE HLY
      by_cases hf0 : f = 0
      case neg =>
        clear k1 hf
        rcases hk with rfl | rfl
        all_goals
          go_wp2_with fail
          refine (HCK.out w (Below.refl _ _)).mono ?_
          rintro e w1 ⟨rfl, hb1⟩
          go_wp2_with fail
          go_ret2
          exact CkPut.no KE.out hf0 hb1
      case pos =>
        subst hf0
        have HL2 := Lib.hid (HLY.out rfl)
        clear HLY
        have hB := ofW_range (bestW_ok hk hf).1
        obtain ⟨b, hb⟩ : ∃ b : Nat, bestW kd l = (b : Int) := ⟨(bestW kd l).toNat, by omega⟩
        have hb5 : b ≤ 5 := by omega
        rw [hb] at HBE K5
        clear k1 hf hB hb
        rcases hk with rfl | rfl
        all_goals
          go_wp2_with fail
          refine (HCK.out w (Below.refl _ _)).mono ?_
          rintro e w1 ⟨rfl, hb1⟩
          go_wp2_with fail
          refine (HBE.out w1 hb1).mono ?_
          rintro e w2 ⟨rfl, hb2⟩
          have hb02 := hb1.trans (hb2.mono hb1.size)
          go_wp2_with fail
          refine (HL2.out w2 hb02 b hb5).mono ?_
          rintro e w3 ⟨v, rfl, hown, hb3⟩
          go_wp2_with fail
          go_ret2
          exact CkPut.yes KE.out K5.out (own_base hown hb02.size) (hb02.trans (hb3.mono hb02.size))
    case neg =>
      cases ho : ofW way kd with
      | false =>
        have KE := Lib.hid (k1 (.inr ⟨hw, ho⟩))
        rw [ho] at HOF
        clear k1 ho
        rcases hk with rfl | rfl
        all_goals
          go_wp2_with fail
          refine (HOF.out w).mono ?_
          rintro e w1 ⟨rfl, rfl⟩
          go_wp2_with fail
          go_ret2
          exact CkPut.no KE.out (by decide) (Below.refl _ _)
      | true =>
        have KE := Lib.hid (K2.out hk (.inr ho))
        have hR := ofW_range ho
        obtain ⟨b, rfl⟩ : ∃ b : Nat, way = (b : Int) := ⟨way.toNat, by omega⟩
        have K5 : Hid (cpW kd (b : Int) l = b) := Lib.hid (by rw [K4.out, if_neg hw, Int.toNat_natCast])
        have hb5 : b ≤ 5 := by omega
        rw [ho] at HOF
        obtain ⟨f, hf⟩ : ∃ f, ckE kd l = f := ⟨_, rfl⟩
        rw [hf] at HCK KE HLY
        by_cases hf0 : f = 0
        case neg =>
          clear k1 hf ho hR
          rcases hk with rfl | rfl
          all_goals
            go_wp2_with fail
            refine (HOF.out w).mono ?_
            rintro e w0 ⟨rfl, rfl⟩
            go_wp2_with fail
            refine (HCK.out w (Below.refl _ _)).mono ?_
            rintro e w1 ⟨rfl, hb1⟩
            go_wp2_with fail
            go_ret2
            exact CkPut.no KE.out hf0 hb1
        case pos =>
          subst hf0
          have HL2 := Lib.hid (HLY.out rfl)
          clear HLY
          clear k1 hf ho hR
          rcases hk with rfl | rfl
          all_goals
            go_wp2_with fail
            refine (HOF.out w).mono ?_
            rintro e w0 ⟨rfl, rfl⟩
            go_wp2_with fail
            refine (HCK.out w (Below.refl _ _)).mono ?_
            rintro e w1 ⟨rfl, hb1⟩
            go_wp2_with fail
            refine (HL2.out w1 hb1 b hb5).mono ?_
            rintro e w3 ⟨v, rfl, hown, hb3⟩
            go_wp2_with fail
            go_ret2
            exact CkPut.yes KE.out K5.out (own_base hown hb1.size) (hb1.trans (hb3.mono hb1.size))
end Go.Proofs.YthlfplljbbnaoaaGreatDoor

/- Contract of the statements' own Great over a column's values: are there more, or longer texts, than are looked at? Nothing changes. -/
namespace Go.Proofs.YthlfplljbbnaoaaGreatDoor
open Go.RowKit
set_option linter.unusedVariables false
set_option linter.unusedSimpArgs false
set_option maxRecDepth 100000

/-- More than 'm', or one of the first 'm' is longer than 'q'. -/
def grV (l : List (Int × Int × Tx)) (m q : Nat) : Bool := decide (m < l.length) || (l.take m).any fun s => decide (q < s.2.2.length)
theorem grV_false {l : List (Int × Int × Tx)} {m q : Nat} (h : grV l m q = false) : l.length ≤ m ∧ ∀ s ∈ l, s.2.2.length ≤ q := by
  unfold grV at h
  rw [Bool.or_eq_false_iff] at h
  obtain ⟨h1, h2⟩ := h
  have h3 : l.length ≤ m := by simpa using h1
  rw [List.take_of_length_le h3] at h2
  refine ⟨h3, fun s hs => ?_⟩
  have := List.any_eq_false.1 h2 s hs
  simpa using this
set_option maxHeartbeats 400000 in
theorem greatV_any (A : Option Addr) (n c m q : Nat) (l : List (Int × Int × Tx)) (w : World) (hr : Reads w w.heap.size 3 A n (vs l)) (hm : m ≤ 1000) (hq : q ≤ 1000) (g : Bool) (hg : g = grV l m q) :
    Calls Tryz.prog 7 #[.slice A n c, .int .i64 (m : Int), .int .i64 (q : Int)] w fun e w' => e = .returned (.bool g) ∧ w = w' := by
  have e1 : l.length = n := by have := hr.1; rw [vs_length] at this; omega
  have HE : Hid (l.length = n) := Lib.hid e1
  have HG := Lib.hid hg
  clear e1 hg
  go_enter Tryz.func7, Tryz.ntmps7
  go_wp2_with fail
  go_loop [7] (fun i => ∃ k : Nat, k ≤ n ∧ k ≤ m ∧ i = .int .i64 (k : Int) ∧ Hid (∀ s ∈ l.take k, s.2.2.length ≤ q)) (fun i => n - (intOf i).toNat)
  case atStart => exact ⟨0, Nat.zero_le _, Nat.zero_le _, rfl, Lib.hid (by simp)⟩
  case round =>
    obtain ⟨k, hk, hkm, rfl, HA⟩ := hrel
    have hend : ¬ (k < n ∧ k < m) → Hid (g = decide (m < n)) := fun h => Lib.hid (by
      rw [HG.out]
      unfold grV
      rw [HE.out]
      by_cases h1 : m < n
      · simp [h1]
      · have h2 : ((l.take m).any fun s => decide (q < s.2.2.length)) = false := by
          rw [List.any_eq_false]
          intro s hs
          have hkn : n ≤ k := by omega
          have := HA.out s (by
            rw [List.take_of_length_le (by rw [HE.out]; exact hkn)]
            exact List.mem_of_mem_take hs)
          simpa using this
        rw [h2]; simp)
    by_cases hlt : k < n
    · by_cases hltm : k < m
      · obtain ⟨⟨v0, v1, z⟩, hz⟩ : ∃ v, l[k]? = some v := ⟨_, List.getElem?_eq_getElem (by rw [HE.out]; omega)⟩
        obtain ⟨b, o, rfl, hb, x0, x1, x2⟩ := hr.val hz
        have hzs : (⟨z.toArray⟩ : ByteArray).size = z.length := by simp [ByteArray.size]
        by_cases hzl : q < z.length
        · have HR : Hid (g = true) := Lib.hid (by
            rw [HG.out]
            unfold grV
            rw [Bool.or_eq_true]
            refine .inr (List.any_eq_true.2 ⟨(v0, v1, z), ?_, by simp [hzl]⟩)
            rw [List.mem_take_iff_getElem]
            obtain ⟨h1, h2⟩ := List.getElem?_eq_some_iff.1 hz
            exact ⟨k, by omega, h2⟩)
          clear hz hend
          go_wp2_with fail
          go_ret
          exact ⟨by rw [HR.out]; rfl, rfl⟩
        · have HA2 : Hid (∀ s ∈ l.take (k + 1), s.2.2.length ≤ q) := Lib.hid (by
            rw [take_snoc hz]
            intro s hs
            rcases List.mem_append.1 hs with hs | hs
            · exact HA.out s hs
            · rw [List.mem_singleton] at hs; subst hs; simp only []; omega)
          clear hz hend
          go_wp2_with fail
          go_round
          case rel => exact ⟨k + 1, by omega, by omega, by go_num, HA2⟩
          case measure => simp [intOf]; omega
      · have HR := hend (fun h => hltm h.2)
        clear hend
        by_cases hmn : m < n
        · have d1 : decide (m < n) = true := by simp [hmn]
          go_wp2_with fail
          go_ret
          exact ⟨by rw [HR.out, d1]; rfl, rfl⟩
        · omega
    · have HR := hend (fun h => hlt h.1)
      clear hend
      by_cases hmn : m < n
      · omega
      · have d1 : decide (m < n) = false := by simp; omega
        go_wp2_with fail
        go_ret
        exact ⟨by rw [HR.out, d1]; rfl, rfl⟩
end Go.Proofs.YthlfplljbbnaoaaGreatDoor

/- The walk of the statement ChunkPuts, under the contracts of chunk's own Put and Best: any values have, in any way, or the best one, the chunk that the document says, or none. -/
namespace Go.Proofs.YthlfplljbbnaoaaGreatDoor
open Go.RowKit
set_option linter.unusedVariables false
set_option linter.unusedSimpArgs false
set_option maxRecDepth 100000

theorem cpB_len {kd way : Int} {l : List Vl} (hl : l.length ≤ 65536) (hi : ∀ v ∈ l, In64 v.2.1) (ht : ∀ v ∈ l, v.2.2.length ≤ 65536) : (cpB kd way l).length ≤ 4295770000 := by
  unfold cpB
  split
  · exact lyB_length hl hi ht
  · simp
set_option maxHeartbeats 2000000 in
theorem putsC_any (HP : PutC) (HB : BestC) (A : Option Addr) (n c : Nat) (kd way : Int) (l : List Vl) (w : World) (hr : Reads w w.heap.size 3 A n (vs l)) (hi : ∀ v ∈ l, In64 v.1 ∧ In64 v.2.1) (hk : In64 kd) (hw : In64 way) :
    Calls Tryz.prog 3 #[.slice A n c, .int .i64 kd, .int .i64 way] w fun e w' => e = .returned (.bool true) ∧ Below w.heap.size w w' := by
  have HAW := Lib.hid (awakeC_any HP)
  have e1 : l.length = n := by have := hr.1; rw [vs_length] at this; omega
  have hgr := fun g hg => greatV_any A n c 100 100 l w hr (by omega) (by omega) g hg
  cases hg : grV l 100 100 with
  | true =>
    have HGR := Lib.hid (hgr true hg.symm)
    clear hgr hg
    go_enter Tryz.func3, Tryz.ntmps3
    go_wp2_with fail
    refine HGR.out.mono ?_
    rintro e w1 ⟨rfl, rfl⟩
    go_wp2_with fail
    refine (HAW.out w).mono ?_
    rintro e w1 ⟨rfl, hb1⟩
    go_wp2_with fail
    go_ret
    exact ⟨rfl, hb1⟩
  | false =>
    have HGR := Lib.hid (hgr false hg.symm)
    obtain ⟨hn, hq⟩ := grV_false hg
    rw [e1] at hn
    have hsh : ∀ v ∈ l, v.2.2.length ≤ 65536 := fun v hv => by have := hq v hv; omega
    have hi2 : ∀ v ∈ l, In64 v.2.1 := fun v hv => (hi v hv).2
    have hp := HP A n c kd way l w hr (by omega) hi hsh hk hw
    have hx := fun (W : World) (h : Below w.heap.size w W) => refCkPut_any A n c kd way l W (hr.next h) (by omega) hi2 hsh
    have hbe := fun (W : World) (h : Below w.heap.size w W) => HB A n c kd l W (hr.next h) (by omega) hi hsh hk
    have hbx := fun (W : World) (h : Below w.heap.size w W) => refBest_any A n c kd l W (hr.next h) (by omega) hi2 hsh
    have hbl := cpB_len (kd := kd) (way := way) (l := l) (by omega) hi2 hsh
    unfold CkPut at hp hx
    obtain ⟨f, hf⟩ : ∃ f, cpE kd way l = f := ⟨_, rfl⟩
    obtain ⟨P, hP⟩ : ∃ P, cpB kd way l = P := ⟨_, rfl⟩
    obtain ⟨g, hg'⟩ : ∃ g, bestW kd l = g := ⟨_, rfl⟩
    rw [hf, hP] at hp
    simp only [hf, hP] at hx
    rw [hP] at hbl
    rw [hg'] at hbe hbx
    have HPP := Lib.hid hp
    have HXX := Lib.hid hx
    have HBE := Lib.hid hbe
    have HBX := Lib.hid hbx
    clear hgr hg hq hp hx hbe hbx hf hP hg' hi hi2 hsh hk hw
    go_enter Tryz.func3, Tryz.ntmps3
    go_wp2_with fail
    refine HGR.out.mono ?_
    rintro e w1 ⟨rfl, rfl⟩
    go_wp2_with fail
    refine HPP.out.mono ?_
    rintro e w1 ⟨v1, rfl, hown1, hb1⟩
    obtain ⟨A1, c1, rfl, _, _, r1⟩ := own_slice hown1
    clear hown1
    go_wp2_with fail
    refine (HXX.out w1 hb1).mono ?_
    rintro e w2 ⟨v2, rfl, hown2, hb2⟩
    obtain ⟨A2, c2, rfl, _, _, r2⟩ := own_slice hown2
    have hb02 := hb1.trans (hb2.mono hb1.size)
    have r12 := r1.next hb2
    clear hown2 r1
    go_wp2_with fail
    refine (same_true A1 A2 P.length c1 P.length c2 P w2 r12 r2 (by omega)).mono ?_
    rintro e w3 ⟨rfl, hd⟩
    have hb03 := hd.below hb02
    go_wp2_with fail
    refine (HBE.out w3 hb03).mono ?_
    rintro e w4 ⟨rfl, hb4⟩
    have hb04 := hb03.trans (hb4.mono hb03.size)
    go_wp2_with fail
    refine (HBX.out w4 hb04).mono ?_
    rintro e w5 ⟨rfl, hb5⟩
    have hb05 := hb04.trans (hb5.mono hb04.size)
    go_wp2_with fail
    refine (HAW.out w5).mono ?_
    rintro e w6 ⟨rfl, hb6⟩
    go_wp2_with fail
    go_ret
    exact ⟨rfl, hb05.trans (hb6.mono hb05.size)⟩
end Go.Proofs.YthlfplljbbnaoaaGreatDoor
