/- Texts joined: DcWhole DcPlaces PcGetI. -/
import Derived.Test.YthlfplljbbnaoaaGreatDoorJ31
import Derived.Test.YthlfplljbbnaoaaGreatDoorJ32
import Derived.Test.YthlfplljbbnaoaaGreatDoorJ17
import Derived.Test.YthlfplljbbnaoaaGreatDoorJ13
import Derived.Test.YthlfplljbbnaoaaGreatDoorJ25
import Derived.Test.YthlfplljbbnaoaaGreatDoorJ30
import Derived.Test.YthlfplljbbnaoaaGreatDoorJ29
import Derived.Test.YthlfplljbbnaoaaGreatDoorJ16
import Derived.Test.YthlfplljbbnaoaaGreatDoorJ14
import Derived.Test.YthlfplljbbnaoaaGreatDoorJ24
/- Contracts of the library's slices.Index and slices.Contains over truths, and of package dict's whole: what is wrong with places. -/
namespace Go.Proofs.YthlfplljbbnaoaaGreatDoor
open Go.RowKit
set_option linter.unusedVariables false
set_option linter.unusedSimpArgs false
set_option maxRecDepth 100000

theorem indexB_any (A : Option Addr) (n c : Nat) (f : Nat → Bool) (w : World) (hr : Reads w w.heap.size 1 A n (bl f n)) (hn : n ≤ 140737488355328) :
    Calls Tryz.prog 201 #[.slice A n c, .bool false] w fun e w' => e = .returned (.int .i64 (missI f n)) ∧ w = w' := by
  go_enter Tryz.func201, Tryz.ntmps201
  go_wp2_with fail
  go_loop [8] (fun s8 => ∃ k : Nat, k ≤ n ∧ s8 = .int .i64 (k : Int) ∧ ∀ j, j < k → f j = true) (fun i => n - (intOf i).toNat)
  case atStart => exact ⟨0, Nat.zero_le _, rfl, fun j h => absurd h (by omega)⟩
  case round =>
    obtain ⟨k, hk, rfl, hall⟩ := hrel
    obtain ⟨h1, h2⟩ := find_step hk hall
    by_cases hlt : k < n
    · obtain ⟨ad, rfl, _, hc⟩ := bl_cell hr hlt
      cases hf : f k with
      | true =>
        rw [hf] at hc
        have HALL : Hid (∀ j, j < k + 1 → f j = true) := Lib.hid fun j hj => by
          rcases Nat.lt_or_ge j k with h | h
          · exact hall j h
          · obtain rfl : j = k := by omega
            exact hf
        clear h1 h2 hall hf
        go_wp2_with fail
        go_round
        case rel => exact ⟨k + 1, by omega, by go_num, HALL.out⟩
        case measure => simp [intOf]; omega
      | false =>
        rw [hf] at hc
        have HM := Lib.hid (h1 hlt hf)
        clear h1 h2 hall hf
        go_wp2_with fail
        go_ret
        exact ⟨by rw [HM.out]; rfl, rfl⟩
    · have HM := Lib.hid (h2 (by omega))
      clear h1 h2 hall
      go_wp2_with fail
      go_ret
      exact ⟨by rw [HM.out]; rfl, rfl⟩
theorem containsB_any (A : Option Addr) (n c : Nat) (f : Nat → Bool) (w : World) (hr : Reads w w.heap.size 1 A n (bl f n)) (hn : n ≤ 140737488355328) :
    Calls Tryz.prog 183 #[.slice A n c, .bool false] w fun e w' => e = .returned (.bool (!(List.range n).all f)) ∧ w = w' := by
  have hm := miss_all (f := f) (n := n)
  have HC := Lib.hid (indexB_any A n c f w hr hn)
  obtain ⟨m, hme⟩ : ∃ m, m = missI f n := ⟨_, rfl⟩
  rw [← hme] at hm HC
  have HM : Hid (decide (0 ≤ m) = !(List.range n).all f) := Lib.hid (by
    cases h : (List.range n).all f with
    | true =>
      have : ¬ 0 ≤ m := fun h1 => by have := hm.1 h1; rw [h] at this; cases this
      simp [this]
    | false => simp [hm.2 h])
  clear hm hme
  go_enter Tryz.func183, Tryz.ntmps183
  go_wp2_with fail
  refine HC.out.mono ?_
  rintro e w' ⟨rfl, rfl⟩
  go_wp2_with fail
  go_ret
  exact ⟨by rw [← HM.out]; rfl, rfl⟩
theorem run_make_bool (n : Nat) (hn : n ≤ 140737488355328) (w : World) :
    (Instr.makeSlice 86 (.int .i64 (n : Int)) (.int .i64 (n : Int))).run Tryz.prog w = .ok (.slice (some ⟨w.heap.size, 0, none⟩) n n) (w.alloc (.cells (madeCells #[.bool false] n) 4)) := by
  obtain ⟨i, hi, hz0, hz1, hz2⟩ := info_parts info_bool
  have hr := run_make (P := Tryz.prog) w 86 4 i _ Tryz.underlying86 hi hz0 .i64 .i64 n n (by omega) (by omega) (by rw [hz2]; omega) (by omega)
  rw [hz1] at hr
  simpa [Value.cells] using hr
theorem made_bl (n : Nat) : madeCells #[Value.bool false] n = (bl (fun _ => false) n).toArray := by
  apply Array.ext'
  rw [toList_madeCells_one]
  apply List.ext_getElem?
  intro j
  by_cases hj : j < n
  · rw [bl_at _ hj, List.getElem?_replicate, if_pos hj]
  · rw [List.getElem?_eq_none (by simp; omega), List.getElem?_eq_none (by rw [bl_length]; omega)]
theorem whE_five {L : List Nat} {c k a : Nat} (h : L[k]? = some a) (hc : c ≤ a) : whE L c = 5 := by
  unfold whE
  rw [if_pos]
  rw [List.any_eq_true]
  exact ⟨a, List.mem_of_getElem? h, by simpa using hc⟩
theorem whE_else {L : List Nat} {c : Nat} (h : ∀ a ∈ L, a < c) : whE L c = if (List.range c).all (fun i => L.contains i) = true then 0 else 4 := by
  unfold whE
  rw [if_neg]
  intro h1
  rw [List.any_eq_true] at h1
  obtain ⟨a, ha, hc⟩ := h1
  have := h a ha
  simp at hc; omega
set_option maxHeartbeats 1000000 in
theorem whole_any (A : Option Addr) (n c : Nat) (L : List Nat) (cnt : Nat) (w : World) (hr : Reads w w.heap.size 1 A n (us L)) (hn : n ≤ 65536) (hc : cnt ≤ 65536) :
    Calls Tryz.prog 167 #[.slice A n c, .int .i64 (cnt : Int)] w fun e w' => e = .returned (.int .i64 (whE L cnt : Int)) ∧ Below w.heap.size w w' := by
  have e1 : L.length = n := by have := hr.1; rw [us_length] at this; omega
  have E1 := Lib.hid e1
  have hmk := fun W => run_make_bool cnt (by omega) W
  rw [made_bl] at hmk
  have hF0 := Blk.new w 4 (bl (fun _ => false) cnt).toArray
  have hb0 : Below w.heap.size w (w.alloc (.cells (bl (fun _ => false) cnt).toArray 4)) := (Below.refl _ _).alloc (Nat.le_refl _) _
  have hw1 : IntKind.u64.wrap (cnt : Int) = (cnt : Int) := IntWalk.u64_in _ (by omega)
  clear e1
  go_enter Tryz.func167, Tryz.ntmps167
  go_wp2_with fail
  clear hmk
  go_loopw [12] (fun s12 wr => ∃ k : Nat, k ≤ n ∧ s12 = .int .i64 (k : Int) ∧ Blk wr w.heap.size 4 (bl (fun j => (L.take k).contains j) cnt).toArray ∧ Below w.heap.size w wr ∧ Hid (∀ a ∈ L.take k, a < cnt)) (fun i _ => n - (intOf i).toNat)
  case atStart => exact ⟨0, Nat.zero_le _, rfl, hF0, hb0, Lib.hid (by simp)⟩
  case round =>
    clear hF0 hb0
    obtain ⟨k, hk, rfl, hF, hb, hall⟩ := hrel
    by_cases hlt : k < n
    · obtain ⟨ad, u, rfl, _, hu, hc0⟩ := (hr.below hb).at_ hlt
      obtain ⟨a, ha, rfl⟩ := us_at hu
      by_cases hca : cnt ≤ a
      · have H5 := Lib.hid (whE_five ha hca)
        clear hu ha
        go_wp2_with fail
        go_ret
        exact ⟨by rw [H5.out]; rfl, hb⟩
      · have hac : a < cnt := by omega
        have hcell := hF.cell a
        rw [List.getElem?_toArray, bl_at _ hac] at hcell
        have hf := hF.frozen a
        have HA := Lib.hid ha
        have HALL : Hid (∀ x ∈ L.take (k + 1), x < cnt) := Lib.hid fun x hx => by
          rw [take_snoc ha] at hx
          rcases List.mem_append.1 hx with h | h
          · exact hall.out x h
          · rw [List.mem_singleton] at h; omega
        clear hu ha
        generalize hq : (List.take k L).contains a = q at hcell
        clear hq
        go_wp2_with fail
        go_round
        case rel =>
          refine ⟨k + 1, by omega, by go_num, ?_, hb.setCell (Nat.le_refl _) _, HALL⟩
          have h1 := hF.set_ a (.bool true)
          rw [List.setIfInBounds_toArray, bl_set _ hac] at h1
          have e : (fun j => (L.take (k + 1)).contains j) = fun j => decide (j = a) || (L.take k).contains j := by
            funext j
            rw [take_snoc HA.out]
            simp [Bool.or_comm]
          rw [e]
          exact h1
        case measure => simp [intOf]; omega
    · obtain rfl : k = n := by omega
      rw [List.take_of_length_le (by rw [E1.out]; exact Nat.le_refl _)] at hF hall
      have hR : Reads wr wr.heap.size 1 (some ⟨w.heap.size, 0, none⟩) cnt (bl (fun j => L.contains j) cnt) := reads_blk hF _ cnt _ hF.lt (bl_length _ _) (by rw [List.take_of_length_le (by simp [bl_length])])
      have HW := Lib.hid (whE_else hall.out)
      have HC := Lib.hid (containsB_any (some ⟨w.heap.size, 0, none⟩) cnt cnt (fun j => L.contains j) wr hR (by omega))
      generalize hq : (List.range cnt).all (fun j => L.contains j) = q at HW HC
      clear hF hall hR hq
      go_wp2_with fail
      refine HC.out.mono ?_
      rintro e w' ⟨rfl, rfl⟩
      cases q with
      | true =>
        go_wp2_with fail
        go_ret
        exact ⟨by rw [HW.out]; rfl, hb⟩
      | false =>
        go_wp2_with fail
        go_ret
        exact ⟨by rw [HW.out]; rfl, hb⟩
end Go.Proofs.YthlfplljbbnaoaaGreatDoor

/- Contract of package dict's readPlaces: the places that it reads, and the reader behind it. -/
namespace Go.Proofs.YthlfplljbbnaoaaGreatDoor
open Go.RowKit
set_option linter.unusedVariables false
set_option linter.unusedSimpArgs false
set_option maxRecDepth 100000

theorem fix1_small (b : List Nat) (at_ : Nat) (x : Option (Int × Nat)) (hb : ∀ v ∈ b, v < 256) : (fixS b at_ x 1).1 < 256 := by
  cases x with
  | some y => show (0 : Nat) < 256; omega
  | none =>
    cases h : b[at_]? with
    | none =>
      have := List.getElem?_eq_none_iff.1 h
      unfold fixS
      simp only
      rw [if_neg (by omega), if_pos (by omega)]
      show (0 : Nat) < 256
      omega
    | some v => rw [fix1_byte b at_ v h]; exact hb v (List.mem_of_getElem? h)
theorem wd_one (a : Nat) : wd [a] = blen a := by simp [wd]
set_option maxHeartbeats 1000000 in
theorem places_any {w : World} {g : Nat} {b : List Nat} {at_ : Nat} {x : Option (Int × Nat)} (n c : Nat) (h : RdS w g b at_ x) (hn : n ≤ 65536) (hc : c ≤ 65536) :
    Calls Tryz.prog 149 #[.pointer (some ⟨g, 0, none⟩), .int .i64 (n : Int), .int .i64 (c : Int)] w
      fun e w' => ∃ v, e = .returned v ∧ w'.ownsRow w.heap.size 61 1 v (rpS b at_ x n c).1.length (us (rpS b at_ x n c).1) ∧ RdTo w g b (rpS b at_ x n c).2.1 (rpS b at_ x n c).2.2 w' := by
  have hby := h.byte
  have hpl := h.place.2
  have hgw := h.lt
  obtain ⟨K, hK⟩ : ∃ K, K = blen (c - 1) := ⟨_, rfl⟩
  have hK16 : K ≤ 17 := by rw [hK, blen_le]; omega
  obtain ⟨w1, hw1⟩ : ∃ w1, w1 = w.alloc (.cells #[.int .u64 ((c - 1 : Nat) : Int)] 61) := ⟨_, rfl⟩
  have hb1 : Below w.heap.size w w1 := by rw [hw1]; exact (Below.refl _ _).alloc (Nat.le_refl _) _
  have hwi : Calls Tryz.prog 96 #[.slice (some ⟨w.heap.size, 0, none⟩) 1 1] w1 fun e w' => e = .returned (.int .i64 (K : Int)) ∧ w1 = w' := by
    have := width_any (some ⟨w.heap.size, 0, none⟩) 1 1 [c - 1] w1 (by rw [hw1]; exact reads_blk (Blk.new w _ _) _ 1 _ (by simp) rfl rfl) (by intro a ha; simp at ha; omega) (by omega)
    rwa [wd_one, ← hK] at this
  have h1 := h.next hb1
  have hfs := fix1_small b at_ x hby
  have hf := nfix_is 1 h1
  have hR : rpS b at_ x n c = rpS b at_ x n c := rfl
  unfold rpS at hR ⊢
  clear hR
  rw [← hK]
  rcases hF : fixS b at_ x 1 with ⟨v, a1, x1⟩
  rw [hF] at hf hfs
  simp only at hf hfs ⊢
  obtain ⟨x2, hx2⟩ : ∃ x2, x2 = (if v = K then x1 else failS a1 x1 4) := ⟨_, rfl⟩
  rw [← hx2]
  have htb := takeS_byte b a1 x2 ((b.length : Int) - a1) hby
  have ht := fun (w1 : World) (h1 : RdS w1 g b a1 x2) => take_is ((b.length : Int) - a1) h1
  rcases hT : takeS b a1 x2 ((b.length : Int) - a1) with ⟨t, a2, x3⟩
  rw [hT] at htb ht
  simp only at htb ht ⊢
  obtain ⟨L, hL⟩ : ∃ L, L = unpackS t (n : Int) (K : Int) := ⟨_, rfl⟩
  obtain ⟨E, hE⟩ : ∃ E, E = unpackE t (n : Int) (K : Int) := ⟨_, rfl⟩
  have hu := fun (A : Option Addr) (m c : Nat) (w1 : World) (h1 : Reads w1 w1.heap.size 1 A m (bs t)) => unpack_any A m c t (n : Int) (K : Int) w1 h1 htb.1 (by have := h1.1; rw [bs_length] at this; omega) (by omega) (by omega)
  have hLl := unpackS_all t (n : Int) (K : Int)
  rw [← hL] at hLl hu ⊢
  rw [← hE] at hu ⊢
  obtain ⟨W, hW⟩ : ∃ W, W = whE L c := ⟨_, rfl⟩
  have hwh := fun (A : Option Addr) (m cc : Nat) (w1 : World) (h1 : Reads w1 w1.heap.size 1 A m (us L)) (hm : m ≤ 65536) => whole_any A m cc L c w1 h1 hm hc
  rw [← hW] at hwh ⊢
  have hLL := hLl.2
  have HT := Lib.hid ht; have HU := Lib.hid hu; have HW := Lib.hid hwi; have HX := Lib.hid hx2; have HF := Lib.hid hf; have HH := Lib.hid hwh; have HW1 := Lib.hid hw1
  have hw1s := hb1.size
  have hG1 : w.grownBy w1 (some g) := by rw [hw1]; exact only_alloc (World.grownBy.refl w _) _
  clear ht hu hwi hx2 hf hF hT hL hE hK hLl htb hwh hW hw1 h1 hpl
  have hv2 : (v : Int) ≤ 255 := by omega
  have hKw : IntKind.u64.wrap (K : Int) = (K : Int) := IntWalk.u64_in _ (by omega)
  by_cases hc0 : c = 0
  case' pos =>
    subst hc0
    have hw := HW1.out
    rw [show ((0 - 1 : Nat) : Int) = 0 from rfl] at hw
    go_enter Tryz.func149, Tryz.ntmps149
    go_wp2_with fail
    rw [show max (-1 : Int) 0 = 0 from rfl, ← hw]
  case' neg =>
    have hcc : (c : Int) - 1 = ((c - 1 : Nat) : Int) := by omega
    have hw := HW1.out
    go_enter Tryz.func149, Tryz.ntmps149
    go_wp2_with fail
    rw [← hw]
  all_goals
    clear hw
    refine HW.out.mono ?_
    rintro e w' ⟨rfl, rfl⟩
    go_wp2_with fail
    refine HF.out.mono ?_
    rintro e w2 ⟨rfl, hS2, hG2⟩
    have hG02 := only_trans hG1 hG2
    clear hG2
    by_cases hvK : v = K
    case' pos =>
      have q1 : ((v : Int) != (K : Int)) = false := by simp; omega
      have hx := HX.out
      rw [if_pos hvK] at hx
      rw [← hx] at hS2
      clear hx hvK
      go_wp2_with fail
    case' neg =>
      have q1 : ((v : Int) != (K : Int)) = true := by simp; omega
      have hx := HX.out
      rw [if_neg hvK] at hx
      clear hvK
      go_wp2_with fail
      refine (fail_is 4 hS2).mono ?_
      rintro e w2' ⟨rfl, hS2', hG2'⟩
      rw [← hx] at hS2'
      have hG02' := only_trans hG02 hG2'
      clear hS2 hG02 hG2' hx
      have hS2 := hS2'
      have hG02 := hG02'
      clear hS2' hG02'
      go_wp2_with fail
    all_goals
      refine (left_is hS2).mono ?_
      rintro e w3 ⟨rfl, hd3⟩
      have hS3 := hS2.next (hd3.below (Below.refl _ _))
      have hG03 := only_trans hG02 (only_below (World.grownBy.refl _ _) (hd3.below (Below.refl _ _)))
      go_wp2_with fail
      refine (HT.out w3 hS3).mono ?_
      rintro e w4 ⟨⟨A4, m4, c4, rfl, r4⟩, hS4, hG4⟩
      have hG04 := only_trans hG03 hG4
      go_wp2_with fail
      refine (HU.out A4 m4 c4 w4 r4).mono ?_
      rintro e w5 ⟨v5, rfl, hown5, hb5⟩
      obtain ⟨A5, c5, rfl, _, _, r5⟩ := own_slice hown5
      have hS5 := hS4.next hb5
      have hG05 := only_below hG04 hb5
      have hlt := hS4.lt
      have hz4 := hG04.size
      clear hS2 hS3 hS4 hG02 hG03 hG4 hG04 hb5 r4 r5 hd3
      go_wp2_with fail
      refine (fail_is (E : Int) hS5).mono ?_
      rintro e w6 ⟨rfl, hS6, hG6⟩
      have hown6 := own_before hown5 hG6 (fun r hr => by injection hr with hr; omega)
      have r6 := Reads.of_own hown6
      have hG06 := only_trans hG05 hG6
      clear hS5 hG05 hown5 hG6
      go_wp2_with fail
      refine (HH.out A5 L.length c5 w6 r6 hLL).mono ?_
      rintro e w7 ⟨rfl, hb7⟩
      have hS7 := hS6.next hb7
      have hG07 := only_below hG06 hb7
      have hown7 := own_below hown6 hb7
      clear hS6 hG06 hown6 r6 hb7
      go_wp2_with fail
      refine (fail_is (W : Int) hS7).mono ?_
      rintro e w8 ⟨rfl, hS8, hG8⟩
      have hown8 := own_before hown7 hG8 (fun r hr => by injection hr with hr; omega)
      go_wp2_with fail
      go_ret
      exact ⟨_, rfl, own_base hown8 hz4, hS8, only_trans hG07 hG8⟩
end Go.Proofs.YthlfplljbbnaoaaGreatDoor

/- Contract of package places' Get over numbers with a sign, whatever list it is handed: the values in new memory, or the error's number. -/
namespace Go.Proofs.YthlfplljbbnaoaaGreatDoor
open Go.RowKit
set_option linter.unusedVariables false
set_option linter.unusedSimpArgs false
set_option maxRecDepth 100000

theorem pcGetI_no (A : Option Addr) (n c : Nat) (k : Int) (f : Value) (w : World) (h : k < 0 ∨ 65536 < k) :
    Calls Tryz.prog 104 #[.slice A n c, .int .i64 k, f] w fun e w' => e = .returned (.tuple #[.slice none 0 0, .int .i64 1]) ∧ w = w' := by
  by_cases hk : k < 0
  · clear h
    go_enter Tryz.func104, Tryz.ntmps104
    go_wp2_with fail
    go_ret2
    exact ⟨rfl, rfl⟩
  · have d1 : decide (k < 0) = false := by simp; omega
    have h2 : 65536 < k := by omega
    clear h
    go_enter Tryz.func104, Tryz.ntmps104
    go_wp2_with fail
    go_ret2
    exact ⟨rfl, rfl⟩
/-- New values, and an error's number. -/
def GotI (w : World) (G : List Value) (E : Int) (e : Ending) (w' : World) : Prop := ∃ v, e = .returned (.tuple #[v, .int .i64 E]) ∧ w'.ownsRow w.heap.size 2 1 v G.length G ∧ Below w.heap.size w w'
set_option maxHeartbeats 2000000 in
theorem pcGetI_any (A : Option Addr) (n c N : Nat) (b : List Nat) (a0 : Nat) (x0 : Option (Int × Nat)) (Q : List Value → Prop) (E : Int) (G : List Value) (w : World) (hr : Reads w w.heap.size 1 A n (bs b)) (hb : ∀ x ∈ b, x < 256) (hn : n ≤ 140737488355328) (hN : N ≤ 65536) (hmet : Met w)
    (hrl : ∀ (w : World) (g : Nat), Met w → RdS w g b 0 none → Calls Tryz.prog 105 #[.pointer (some ⟨g, 0, none⟩), .int .i64 (N : Int)] w
      fun e w' => ∃ v X, e = .returned v ∧ w'.ownsRow w.heap.size 2 1 v X.length X ∧ Q X ∧ RdTo w g b a0 x0 w')
    (hsp : ∀ X, Q X → X.length ≤ 65536 ∧ (endS b (rpS b a0 x0 N X.length).2.1 (rpS b a0 x0 N X.length).2.2).1 = E ∧
      (E = 0 → (rpS b a0 x0 N X.length).1.length = N ∧ G.length = N ∧ ∀ (k p : Nat), (rpS b a0 x0 N X.length).1[k]? = some p → ∃ u : Int, X[p]? = some (.int .i64 u) ∧ G[k]? = some (.int .i64 u)))
    (hG : E ≠ 0 → G = []) :
    Calls Tryz.prog 104 #[.slice A n c, .int .i64 (N : Int), .func (.func 105) #[] #[]] w (GotI w G E) := by
  have d1 : decide ((N : Int) < 0) = false := by simp
  have d2 : decide ((65536 : Int) < (N : Int)) = false := by simp; omega
  have HB := Lib.hid hb; have HRL := Lib.hid hrl; have HSP := Lib.hid hsp; have HG := Lib.hid hG
  clear hb hrl hsp hG
  go_enter Tryz.func104, Tryz.ntmps104
  go_wp2_with fail
  refine (newReader_any A n c b w hr hn HB.out).mono ?_
  rintro e w1 ⟨g, A1, c1, rfl, hg, hR1, hb1⟩
  have hS1 := rd_new hR1
  have hg1 := hS1.lt
  have hz1 := hb1.size
  clear hR1
  go_wp2_with fail
  refine (HRL.out w1 g (hmet.next hb1) hS1).mono ?_
  rintro e w2 ⟨v2, X, rfl, hown2, hQ, hS2, hG2⟩
  obtain ⟨A2, c2, rfl, _, _, _⟩ := own_slice hown2
  have hb2 : Below w.heap.size w w2 := hb1.grown hG2 hb1.size (fun j hj => by injection hj with hj; omega)
  have hz2 := hG2.size
  obtain ⟨hX, hE, hz⟩ := HSP.out X hQ
  have HRP := Lib.hid (places_any N X.length hS2 hN hX)
  obtain ⟨S, hS⟩ : ∃ S, S = rpS b a0 x0 N X.length := ⟨_, rfl⟩
  rw [← hS] at hE hz HRP
  have hPl : S.1.length ≤ 65536 := by rw [hS]; unfold rpS; exact (unpackS_all _ _ _).2
  obtain ⟨P, hP⟩ : ∃ P, P = S.1 := ⟨_, rfl⟩
  rw [← hP] at hz HRP hPl
  have HZ := Lib.hid hz; have HE := Lib.hid hE
  clear hS1 hb1 hG2 hz hE hS2 hS hP hQ HRL HSP
  go_wp2_with fail
  refine HRP.out.mono ?_
  rintro e w3 ⟨v3, rfl, hown3, hS3, hG3⟩
  obtain ⟨A3, c3, rfl, _, _, _⟩ := own_slice hown3
  have hb3 : Below w.heap.size w w3 := hb2.grown hG3 hb2.size (fun j hj => by injection hj with hj; omega)
  have hown23 := own_before hown2 hG3 (fun r hr => by injection hr with hr; omega)
  have hm3 := hmet.next hb3
  have hcl := end_is hm3 hS3
  obtain ⟨o, ho⟩ : ∃ o : Int, o = ((endS b S.2.1 S.2.2).2 : Int) := ⟨_, rfl⟩
  rw [HE.out, ← ho] at hcl
  have HCL := Lib.hid hcl
  clear ho hcl hS3 hb2 hG3 hown2 hm3 HE HRP
  go_wp2_with fail
  refine HCL.out.mono ?_
  rintro e w4 ⟨he, hb4⟩
  have he' : e = .returned (.tuple #[.int .i64 E, .int .i64 o]) := he
  subst he'
  clear he HCL
  have hb04 := hb3.trans (hb4.mono hb3.size)
  have hown24 := own_below hown23 hb4
  have hown34 := own_below hown3 hb4
  clear hown23 hown3 hb3 hb4
  by_cases hrz : E = 0
  · obtain ⟨hlen, hGl, hfit⟩ := HZ.out hrz
    subst hrz
    have hmk := fun W => run_make_i64 N N (Nat.le_refl _) (by omega) W
    rw [← fillW_zero G (.int .i64 0) N hGl] at hmk
    have HX := Lib.hid hGl; have HF := Lib.hid hfit
    have r2 := Reads.of_own hown24
    have r3 := Reads.of_own hown34
    have hF0 := Blk.new w4 2 (fillW G (.int .i64 0) 0)
    have hb40 : Below w4.heap.size w4 (w4.alloc (.cells (fillW G (.int .i64 0) 0) 2)) := (Below.refl _ _).alloc (Nat.le_refl _) _
    clear hGl hfit hown24 hown34 HZ HG
    rw [hlen] at r3
    have HLEN := Lib.hid hlen
    rw [hlen]
    clear hlen
    go_wp2_with fail
    clear hmk
    go_loopw [45] (fun s45 wr => ∃ k : Nat, k ≤ N ∧ s45 = .int .i64 (k : Int) ∧ Blk wr w4.heap.size 2 (fillW G (.int .i64 0) k) ∧ Below w4.heap.size w4 wr) (fun i _ => N - (intOf i).toNat)
    case atStart => exact ⟨0, Nat.zero_le _, rfl, hF0, hb40⟩
    case round =>
      clear hF0 hb40
      obtain ⟨k, hk, rfl, hF, hbr⟩ := hrel
      by_cases hlt : k < N
      · obtain ⟨ad, u, rfl, _, hu, hc0⟩ := (r3.below hbr).at_ hlt
        obtain ⟨a, ha, rfl⟩ := us_at hu
        obtain ⟨u2, hu2, hGk⟩ := HF.out k a ha
        have haX : a < X.length := (List.getElem?_eq_some_iff.1 hu2).1
        obtain ⟨ad2, u2', rfl, _, hu2', hc2⟩ := (r2.below hbr).at_ haX
        obtain rfl : Value.int .i64 u2 = u2' := by rw [hu2] at hu2'; exact Option.some.inj hu2'
        have HAT := Lib.hid hGk
        have hck := hF.cell k
        rw [fillW_old _ _ k (by rw [HX.out]; omega)] at hck
        have hfk := hF.frozen k
        clear hu ha hu2 hu2' hGk
        go_wp2_with fail
        go_round
        case rel =>
          refine ⟨k + 1, by omega, by go_num, ?_, hbr.setCell (Nat.le_refl _) _⟩
          have h1 := hF.set_ k (.int .i64 u2)
          rw [fillW_next _ _ k _ HAT.out] at h1
          exact h1
        case measure => simp [intOf]; omega
      · obtain rfl : k = N := by omega
        rw [fillW_all _ _ k HX.out] at hF
        have hown := own_whole (B := w4.heap.size) hF (Nat.le_refl _) HX.out (by unfold maxLen; omega)
        go_wp2_with fail
        go_ret2
        exact ⟨_, rfl, by rw [HX.out]; exact own_base hown hb04.size, hb04.trans (hbr.mono hb04.size)⟩
  · have q1 : (E == 0) = false := by simp [hrz]
    have q2 : (E != 0) = true := by simp [hrz]
    have hg0 := HG.out hrz
    subst hg0
    clear hrz hown24 hown34 HZ HG
    go_wp2_with fail
    go_ret2
    exact ⟨.slice none 0 0, rfl, own_nil _ _ _ _, hb04⟩
end Go.Proofs.YthlfplljbbnaoaaGreatDoor
