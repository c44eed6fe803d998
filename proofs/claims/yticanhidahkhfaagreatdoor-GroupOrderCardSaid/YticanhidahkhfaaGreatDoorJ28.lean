import Derived.Test.YticanhidahkhfaaGreatDoorJ27
import Derived.Test.YticanhidahkhfaaGreatDoorJ18
import Derived.Test.YticanhidahkhfaaGreatDoorJ22
import Derived.Test.YticanhidahkhfaaGreatDoorJ24
import Derived.Test.YticanhidahkhfaaGreatDoorJ14
import Derived.Test.YticanhidahkhfaaGreatDoorJ21
import Derived.Test.YticanhidahkhfaaGreatDoorJ25
import Derived.Test.YticanhidahkhfaaGreatDoorJ12
import Derived.Test.YticanhidahkhfaaGreatDoorJ8
import Derived.Test.YticanhidahkhfaaGreatDoorJ26
import Derived.Test.YticanhidahkhfaaGreatDoorJ9
import Derived.Test.YticanhidahkhfaaGreatDoorJ20
namespace Go.Proofs.YticanhidahkhfaaGreatDoor
open Go.RowKit
set_option linter.unusedVariables false
set_option linter.unusedSimpArgs false
set_option maxRecDepth 100000
def lowAt (L : List Nat) (r : Nat) (j : Nat) : Bool := decide ((L[j]?).getD 0 ≤ r)
theorem lowAt_all (L : List Nat) (r n : Nat) (h : L.length = n) : (List.range n).all (lowAt L r) = L.all fun d => decide (d ≤ r) := by
  rw [Bool.eq_iff_iff, List.all_eq_true, List.all_eq_true]
  constructor
  · intro h1 d hd
    obtain ⟨j, hj⟩ := List.getElem?_of_mem hd
    have hl := (List.getElem?_eq_some_iff.1 hj).1
    have := h1 j (by simp; omega)
    simpa [lowAt, hj] using this
  · intro h1 j hj
    have hl : j < L.length := by simp at hj; omega
    have := h1 L[j] (List.getElem_mem hl)
    simpa [lowAt, List.getElem?_eq_getElem hl] using this
theorem beyond_any (g r d : Nat) (w : World) (hc : w.cell? ⟨g, 0, none⟩ = some (.int .u64 (r : Int))) :
    Calls Tryz.prog 284 #[.int .u64 (d : Int), .pointer (some ⟨g, 0, none⟩)] w fun e w' => e = .returned (.bool (decide (r < d))) ∧ w = w' := by
  go_enter Tryz.func284, Tryz.ntmps284
  go_wp2_with fail
  go_ret
  exact ⟨rfl, rfl⟩
theorem indexF_any (A : Option Addr) (n c g r : Nat) (L : List Nat) (w : World) (hr : Reads w w.heap.size 1 A n (us L)) (hn : n ≤ 140737488355328) (hg : w.cell? ⟨g, 0, none⟩ = some (.int .u64 (r : Int))) :
    Calls Tryz.prog 300 #[.slice A n c, .func (.func 284) #[] #[.pointer (some ⟨g, 0, none⟩)]] w fun e w' => e = .returned (.int .i64 (missI (lowAt L r) n)) ∧ w = w' := by
  go_enter Tryz.func300, Tryz.ntmps300
  go_wp2_with fail
  go_loop [8] (fun s8 => ∃ k : Nat, k ≤ n ∧ s8 = .int .i64 (k : Int) ∧ ∀ j, j < k → lowAt L r j = true) (fun i => n - (intOf i).toNat)
  case atStart => exact ⟨0, Nat.zero_le _, rfl, fun j h => absurd h (by omega)⟩
  case round =>
    obtain ⟨k, hk, rfl, hall⟩ := hrel
    obtain ⟨h1, h2⟩ := find_step hk hall
    by_cases hlt : k < n
    · obtain ⟨ad, u, rfl, _, hu, hc⟩ := hr.at_ hlt
      obtain ⟨a, ha, rfl⟩ := us_at hu
      by_cases hax : r < a
      · have HM := Lib.hid (h1 hlt (by simp [lowAt, ha]; omega))
        have q1 : decide (r < a) = true := by simp; omega
        have HB := beyond_any g r a w hg
        rw [q1] at HB
        have HB := Lib.hid HB
        clear h1 h2 hall ha hu hax q1
        go_wp2_with fail
        refine HB.out.mono ?_
        rintro e w' ⟨rfl, rfl⟩
        go_wp2_with fail
        go_ret
        exact ⟨by rw [HM.out]; rfl, rfl⟩
      · have q1 : decide (r < a) = false := by simp; omega
        have HALL : Hid (∀ j, j < k + 1 → lowAt L r j = true) := Lib.hid fun j hj => by
          rcases Nat.lt_or_ge j k with h | h
          · exact hall j h
          · obtain rfl : j = k := by omega
            simp [lowAt, ha]; omega
        have HB := beyond_any g r a w hg
        rw [q1] at HB
        have HB := Lib.hid HB
        clear h1 h2 hall ha hu hax q1
        go_wp2_with fail
        refine HB.out.mono ?_
        rintro e w' ⟨rfl, rfl⟩
        go_wp2_with fail
        go_round
        case rel => exact ⟨k + 1, by omega, by go_num, HALL.out⟩
        case measure => simp [intOf]; omega
    · have HM := Lib.hid (h2 (by omega))
      clear h1 h2 hall
      go_wp2_with fail
      go_ret
      exact ⟨by rw [HM.out]; rfl, rfl⟩
theorem containsF_any (A : Option Addr) (n c g r : Nat) (L : List Nat) (w : World) (hr : Reads w w.heap.size 1 A n (us L)) (hn : n ≤ 140737488355328) (hg : w.cell? ⟨g, 0, none⟩ = some (.int .u64 (r : Int))) :
    Calls Tryz.prog 286 #[.slice A n c, .func (.func 284) #[] #[.pointer (some ⟨g, 0, none⟩)]] w fun e w' => e = .returned (.bool (!L.all fun d => decide (d ≤ r))) ∧ w = w' := by
  have hm := miss_all (f := lowAt L r) (n := n)
  have HC := Lib.hid (indexF_any A n c g r L w hr hn hg)
  have ha := lowAt_all L r n (by have := hr.1; rw [us_length] at this; omega)
  obtain ⟨m, hme⟩ : ∃ m, m = missI (lowAt L r) n := ⟨_, rfl⟩
  rw [← hme] at hm HC
  have HM : Hid (decide (0 ≤ m) = !L.all fun d => decide (d ≤ r)) := Lib.hid (by
    rw [← ha]
    cases h : (List.range n).all (lowAt L r) with
    | true =>
      have : ¬ 0 ≤ m := fun h1 => by have := hm.1 h1; rw [h] at this; cases this
      simp [this]
    | false => simp [hm.2 h])
  clear hm hme ha
  go_enter Tryz.func286, Tryz.ntmps286
  go_wp2_with fail
  refine HC.out.mono ?_
  rintro e w' ⟨rfl, rfl⟩
  go_wp2_with fail
  go_ret
  exact ⟨by rw [← HM.out]; rfl, rfl⟩
theorem hmfF (fn : Fn) (first cap : Array Value) (w : World) : (Instr.makeFunc fn first cap).run Tryz.prog w = .ok (.func fn first cap) w := by rfl
set_option maxHeartbeats 1000000 in
theorem fit_any (A : Option Addr) (n c : Nat) (L : List Nat) (m : Int) (w : World) (hr : Reads w w.heap.size 1 A n (us L)) (hn : n ≤ 140737488355328) (hm : In64 m) :
    Calls Tryz.prog 268 #[.slice A n c, .int .i64 m] w fun e w' => e = .returned (.bool (fitB m L)) ∧ Below w.heap.size w w' := by
  have HD := Lib.hid (dist_any m 9223372036854775807 w hm (by unfold In64; omega) (by unfold In64 at hm; omega))
  obtain ⟨r, hr0⟩ : ∃ r, r = roomI m := ⟨_, rfl⟩
  have hr1 : (9223372036854775807 - m).toNat = r := hr0.symm
  rw [hr1] at HD
  have HF : Hid (fitB m L = (L.contains 0 && L.all fun d => decide (d ≤ r))) := Lib.hid (by rw [hr0]; rfl)
  have hb : Below w.heap.size w (w.alloc (.cells #[.int .u64 (r : Int)] 109)) := (Below.refl _ _).alloc (Nat.le_refl _) _
  have hr2 := (hr.below hb).more hb.size
  have hcell : (w.alloc (.cells #[.int .u64 (r : Int)] 109)).cell? ⟨w.heap.size, 0, none⟩ = some (.int .u64 (r : Int)) := by
    simp
  have HC1 := containsU_any A n c L 0 (w.alloc (.cells #[.int .u64 (r : Int)] 109)) hr2 hn
  have HC2 := containsF_any A n c w.heap.size r L (w.alloc (.cells #[.int .u64 (r : Int)] 109)) hr2 hn hcell
  have hmf' := hmfF
  clear hr0 hr1 hr hr2 hcell
  cases h0 : L.contains 0 with
  | false =>
    have HF' : Hid (fitB m L = false) := Lib.hid (by rw [HF.out, h0]; rfl)
    rw [h0] at HC1
    have HC1 := Lib.hid HC1
    clear h0 HC2 HF
    go_enter Tryz.func268, Tryz.ntmps268
    go_wp2_with fail
    refine HD.out.mono ?_
    rintro e w' ⟨rfl, rfl⟩
    go_wp2_with fail
    refine HC1.out.mono ?_
    rintro e w' ⟨rfl, rfl⟩
    go_wp2_with fail
    go_ret
    exact ⟨by rw [HF'.out]; rfl, hb⟩
  | true =>
    have HF' : Hid (fitB m L = !!(L.all fun d => decide (d ≤ r))) := Lib.hid (by rw [HF.out, h0]; simp)
    rw [h0] at HC1
    have HC1 := Lib.hid HC1
    generalize (!L.all fun d => decide (d ≤ r)) = q at HC2 HF'
    have HC2 := Lib.hid HC2
    clear h0 HF
    go_enter Tryz.func268, Tryz.ntmps268
    go_wp2_with fail
    refine HD.out.mono ?_
    rintro e w' ⟨rfl, rfl⟩
    go_wp2_with fail
    refine HC1.out.mono ?_
    rintro e w' ⟨rfl, rfl⟩
    go_wp2_with fail
    refine HC2.out.mono ?_
    rintro e w' ⟨rfl, rfl⟩
    go_wp2_with fail
    go_ret
    exact ⟨by rw [HF'.out]; rfl, hb⟩
end Go.Proofs.YticanhidahkhfaaGreatDoor
namespace Go.Proofs.YticanhidahkhfaaGreatDoor
open Go.RowKit
set_option linter.unusedVariables false
set_option linter.unusedSimpArgs false
set_option maxRecDepth 100000
set_option maxHeartbeats 2000000 in
theorem above_any {w : World} {g : Nat} {b : List Nat} {at_ : Nat} {x : Option (Int × Nat)} (n m : Int) (h : RdS w g b at_ x) (hn : 0 ≤ n ∧ n ≤ 65536) (hm : In64 m) :
    Calls Tryz.prog 223 #[.pointer (some ⟨g, 0, none⟩), .int .i64 m, .int .i64 n] w
      fun e w' => ∃ v, e = .returned v ∧ w'.ownsRow w.heap.size 109 1 v (raS b at_ x n m).1.length (us (raS b at_ x n m).1) ∧ RdTo w g b (raS b at_ x n m).2.1 (raS b at_ x n m).2.2 w' := by
  have hby := h.byte
  have hpl := h.place.2
  have hfs := fix_small b at_ x hby
  have hf := nfix_is 1 h
  have hR : raS b at_ x n m = raS b at_ x n m := rfl
  unfold raS rbS at hR ⊢
  clear hR
  rcases hF : fixS b at_ x 1 with ⟨v, a1, x1⟩
  rw [hF] at hf hfs
  simp only at hf hfs ⊢
  obtain ⟨x2, hx2⟩ : ∃ x2, x2 = (if 64 < v then failS a1 x1 5 else x1) := ⟨_, rfl⟩
  rw [← hx2]
  have htb := takeS_byte b a1 x2 ((b.length : Int) - a1) hby
  have ht := fun (w1 : World) (h1 : RdS w1 g b a1 x2) => take_is ((b.length : Int) - a1) h1
  rcases hT : takeS b a1 x2 ((b.length : Int) - a1) with ⟨t, a2, x3⟩
  rw [hT] at htb ht
  simp only at htb ht ⊢
  obtain ⟨L, hL⟩ : ∃ L, L = unpackS t n v := ⟨_, rfl⟩
  obtain ⟨E, hE⟩ : ∃ E, E = unpackE t n v := ⟨_, rfl⟩
  have hu := fun (A : Option Addr) (m c : Nat) (w1 : World) (h1 : Reads w1 w1.heap.size 1 A m (bs t)) => unpack_any A m c t n v w1 h1 htb.1 (by have := h1.1; rw [bs_length] at this; omega) (by omega) (by omega)
  have hLl := unpackS_lt t n v
  rw [← hL] at hLl hu ⊢
  rw [← hE] at hu ⊢
  have hwd := wd_64 L hLl.1
  obtain ⟨K, hK⟩ : ∃ K, K = wd L := ⟨_, rfl⟩
  have hwi := fun (A : Option Addr) (m c : Nat) (w1 : World) (h1 : Reads w1 w1.heap.size 1 A m (us L)) => width_any A m c L w1 h1 hLl.1 (by have := h1.1; rw [us_length] at this; omega)
  rw [← hK] at hwi hwd ⊢
  obtain ⟨F, hFd⟩ : ∃ F, F = fitB m L := ⟨_, rfl⟩
  have hft := fun (A : Option Addr) (k c : Nat) (w1 : World) (h1 : Reads w1 w1.heap.size 1 A k (us L)) => fit_any A k c L m w1 h1 (by have := h1.1; rw [us_length] at this; omega) hm
  rw [← hFd] at hft ⊢
  obtain ⟨x5, hx5⟩ : ∃ x5, x5 = (if F = true then (if K = v then failS a2 x3 (E : Int) else failS a2 (failS a2 x3 (E : Int)) 4) else failS a2 (if K = v then failS a2 x3 (E : Int) else failS a2 (failS a2 x3 (E : Int)) 4) 4) := ⟨_, rfl⟩
  rw [← hx5]
  have hidem : ∀ (y : Option (Int × Nat)), failS a2 (failS a2 y 4) 4 = failS a2 y 4 := by
    intro y
    cases y with
    | none => rfl
    | some y => rfl
  have HX5 : Hid (x5 = if K = v ∧ F = true then failS a2 x3 (E : Int) else failS a2 (failS a2 x3 (E : Int)) 4) := Lib.hid (by
    rw [hx5]
    by_cases h1 : K = v
    · by_cases h2 : F = true
      · rw [if_pos h2, if_pos h1, if_pos ⟨h1, h2⟩]
      · rw [if_neg h2, if_pos h1, if_neg (fun h => h2 h.2)]
    · by_cases h2 : F = true
      · rw [if_pos h2, if_neg h1, if_neg (fun h => h1 h.1)]
      · rw [if_neg h2, if_neg h1, if_neg (fun h => h1 h.1), hidem])
  clear hx5 hidem
  have HT := Lib.hid ht; have HU := Lib.hid hu; have HW := Lib.hid hwi; have HX := Lib.hid hx2; have HF := Lib.hid hf; have HFT := Lib.hid hft
  clear ht hu hwi hx2 hf hF hT hL hE hK hLl htb hft hFd
  have hv2 : (v : Int) ≤ 255 := by omega
  by_cases h64 : 64 < v
  case' pos =>
    have d1 : decide ((64 : Int) < (v : Int)) = true := by simp; omega
    have hx := HX.out
    rw [if_pos h64] at hx
    go_enter Tryz.func223, Tryz.ntmps223
    go_wp2_with fail
    refine HF.out.mono ?_
    rintro e w1 ⟨rfl, hS1, hG1⟩
    go_wp2_with fail
    refine (fail_is 5 hS1).mono ?_
    rintro e w2 ⟨rfl, hS2, hG2⟩
    rw [← hx] at hS2
    have hG02 := only_trans hG1 hG2
    clear hS1 hG1 hG2 hx
    go_wp2_with fail
  case' neg =>
    have d1 : decide ((64 : Int) < (v : Int)) = false := by simp; omega
    have hx := HX.out
    rw [if_neg h64] at hx
    go_enter Tryz.func223, Tryz.ntmps223
    go_wp2_with fail
    refine HF.out.mono ?_
    rintro e w2 ⟨rfl, hS2, hG02⟩
    rw [← hx] at hS2
    clear hx
    go_wp2_with fail
  all_goals
    clear h64 d1 HF
    refine (left_is hS2).mono ?_
    rintro e w3 ⟨rfl, hd3⟩
    have hS3 := hS2.next (hd3.below (Below.refl _ _))
    have hG03 := only_trans hG02 (only_below (World.grownBy.refl w2 _) (hd3.below (Below.refl _ _)))
    go_wp2_with fail
    refine (HT.out w3 hS3).mono ?_
    rintro e w4 ⟨⟨A4, m4, c4, rfl, r4⟩, hS4, hG4⟩
    have hG04 := only_trans hG03 hG4
    go_wp2_with fail
    refine (HU.out A4 m4 c4 w4 r4).mono ?_
    rintro e w5 ⟨v5, rfl, hown5, hb5⟩
    obtain ⟨A5, c5, rfl, _, _, r5⟩ := own_slice hown5
    have hS5 := hS4.next hb5
    have hG05 := only_below hG04 hb5
    go_wp2_with fail
    refine (fail_is (E : Int) hS5).mono ?_
    rintro e w6 ⟨rfl, hS6, hG6⟩
    have hlt := hS5.lt
    have hgw : g < w.heap.size := h.lt
    have hz4 := hG04.size
    have hown6 := own_before hown5 hG6 (fun r hr => by injection hr with hr; omega)
    have r6 := Reads.of_own hown6
    have hG06 := only_trans hG05 hG6
    clear hS2 hS3 hS4 hS5 hG02 hG03 hG4 hG04 hG05 hb5 r4 r5 hown5 hG6 hd3
    go_wp2_with fail
    refine (HW.out A5 L.length c5 w6 r6).mono ?_
    rintro e w' ⟨rfl, rfl⟩
    by_cases hKv : K = v
    · have q1 : ((K : Int) != (v : Int)) = false := by simp; omega
      go_wp2_with fail
      refine (HFT.out A5 L.length c5 w6 r6).mono ?_
      rintro e w7 ⟨rfl, hb7⟩
      have hown7 := own_below hown6 hb7
      have hS7 := hS6.next hb7
      have hG07 := only_below hG06 hb7
      clear hown6 hS6 hG06 r6 hb7
      cases F with
      | true =>
        have h5 := HX5.out
        rw [if_pos ⟨hKv, rfl⟩] at h5
        rw [← h5] at hS7
        clear h5 hKv
        go_wp2_with fail
        go_ret
        exact ⟨_, rfl, own_base hown7 hz4, hS7, hG07⟩
      | false =>
        have h5 := HX5.out
        rw [if_neg (fun h => by cases h.2)] at h5
        clear hKv
        go_wp2_with fail
        refine (fail_is 4 hS7).mono ?_
        rintro e w8 ⟨rfl, hS8, hG8⟩
        rw [← h5] at hS8
        clear h5
        have hlt7 := hS7.lt
        have hown8 := own_before hown7 hG8 (fun r hr => by injection hr with hr; omega)
        go_wp2_with fail
        go_ret
        exact ⟨_, rfl, own_base hown8 hz4, hS8, only_trans hG07 hG8⟩
    · have q1 : ((K : Int) != (v : Int)) = true := by simp; omega
      have h5 := HX5.out
      rw [if_neg (fun h => hKv h.1)] at h5
      clear hKv
      go_wp2_with fail
      refine (fail_is 4 hS6).mono ?_
      rintro e w7 ⟨rfl, hS7, hG7⟩
      rw [← h5] at hS7
      clear h5
      have hown7 := own_before hown6 hG7 (fun r hr => by injection hr with hr; omega)
      go_wp2_with fail
      go_ret
      exact ⟨_, rfl, own_base hown7 hz4, hS7, only_trans hG06 hG7⟩
end Go.Proofs.YticanhidahkhfaaGreatDoor
namespace Go.Proofs.YticanhidahkhfaaGreatDoor
open Go.RowKit
set_option linter.unusedVariables false
set_option linter.unusedSimpArgs false
set_option maxRecDepth 100000
theorem foGet_no (A : Option Addr) (n c : Nat) (b : List Nat) (k : Int) (w : World) (h : k < 0 ∨ 65536 < k) :
    Calls Tryz.prog 162 #[.slice A n c, .int .i64 k] w (NewLE w (fG b k) (fE b k)) := by
  obtain ⟨h1, h2⟩ := fE_bad (b := b) h
  rw [h1, h2]
  clear h1 h2
  by_cases hk : k < 0
  · clear h
    go_enter Tryz.func162, Tryz.ntmps162
    go_wp2_with fail
    go_ret2
    exact ⟨.slice none 0 0, rfl, own_nil _ _ _ _, Below.refl _ _⟩
  · have d1 : decide (k < 0) = false := by simp; omega
    have h2 : 65536 < k := by omega
    clear h
    go_enter Tryz.func162, Tryz.ntmps162
    go_wp2_with fail
    go_ret2
    exact ⟨.slice none 0 0, rfl, own_nil _ _ _ _, Below.refl _ _⟩
set_option maxHeartbeats 1000000 in
theorem foGet_zero (A : Option Addr) (n c : Nat) (b : List Nat) (w : World) (hr : Reads w w.heap.size 1 A n (bs b)) (hb : ∀ x ∈ b, x < 256) (hn : n ≤ 140737488355328) (hmet : Met w) :
    Calls Tryz.prog 162 #[.slice A n c, .int .i64 0] w (NewLE w (fG b 0) (fE b 0)) := by
  rw [fG_zero]
  have hmk : ∀ W : World, (Instr.makeSlice 205 (.int .i64 0) (.int .i64 0)).run Tryz.prog W = .ok (.slice (some ⟨W.heap.size, 0, none⟩) 0 0) (W.alloc (.cells (madeCells #[.int .i64 0] 0) 2)) := fun W => run_make_i64 0 0 (Nat.le_refl _) (by omega) W
  have HE : Hid (fE b 0 = (endS b 0 none).1) := Lib.hid (by
    unfold fE fst_
    rw [if_neg (by omega), show (0 : Int).toNat = 0 from rfl, if_pos rfl])
  have HB := Lib.hid hb
  clear hb
  go_enter Tryz.func162, Tryz.ntmps162
  go_wp2_with fail
  refine (newReader_any A n c b w hr hn HB.out).mono ?_
  rintro e w1 ⟨g, A1, c1, rfl, hg, hR1, hb1⟩
  have hS1 := rd_new hR1
  have hcl := end_is (hmet.next hb1) hS1
  obtain ⟨r, hr0⟩ : ∃ r, r = (endS b 0 none).1 := ⟨_, rfl⟩
  obtain ⟨o, ho⟩ : ∃ o : Int, o = ((endS b 0 none).2 : Int) := ⟨_, rfl⟩
  rw [← hr0, ← ho] at hcl
  rw [← hr0] at HE
  have HCL := Lib.hid hcl
  clear hr0 ho hcl hR1 hS1
  go_wp2_with fail
  refine HCL.out.mono ?_
  rintro e wy ⟨he, hby⟩
  have he' : e = .returned (.tuple #[.int .i64 r, .int .i64 o]) := he
  subst he'
  clear he HCL
  have hb0y := hb1.trans (hby.mono hb1.size)
  by_cases hrz : r = 0
  · subst hrz
    clear hb1 hby
    go_wp2_with fail
    clear hmk
    go_loop [43] (fun s43 => s43 = .int .i64 0) (fun _ => 0)
    case atStart => rfl
    case round =>
      subst hrel
      go_wp2_with fail
      go_ret2
      rw [HE.out]
      have hown : (wy.alloc (.cells (madeCells #[.int .i64 0] 0) 2)).ownsRow wy.heap.size 2 1 (.slice (some ⟨wy.heap.size, 0, none⟩) 0 0) 0 [] :=
        World.ownsRow_made wy _ _ (Nat.le_refl _) (by unfold maxLen; omega) (by rw [size_madeCells])
      exact ⟨_, rfl, own_base hown hb0y.size, hb0y.alloc hb0y.size _⟩
  · have q1 : (r == 0) = false := by simp [hrz]
    have q2 : (r != 0) = true := by simp [hrz]
    clear hrz hb1 hby
    go_wp2_with fail
    go_ret2
    rw [HE.out]
    exact ⟨.slice none 0 0, rfl, own_nil _ _ _ _, hb0y⟩
theorem up_eq {m : Int} {d : Nat} (hm : In64 m) (h : d ≤ roomI m) : wrap64 (m + wrap64 (d : Int)) = m + (d : Int) := by
  unfold In64 at hm
  unfold roomI at h
  rw [w64, w64]
  omega
theorem ups_at {m : Int} {D : List Nat} {k d : Nat} (h : D[k]? = some d) : (zs (ups m D))[k]? = some (.int .i64 (m + (d : Int))) := by
  refine zs_get ?_
  unfold ups
  rw [List.getElem?_map, h]
  rfl
set_option maxHeartbeats 2000000 in
theorem foGet_ok (A : Option Addr) (n c N : Nat) (b : List Nat) (w : World) (hr : Reads w w.heap.size 1 A n (bs b)) (hb : ∀ x ∈ b, x < 256) (hn : n ≤ 140737488355328) (hN : N ≤ 65536) (h0 : 0 < N) (hmet : Met w) :
    Calls Tryz.prog 162 #[.slice A n c, .int .i64 (N : Int)] w (NewLE w (fG b (N : Int)) (fE b (N : Int))) := by
  have d1 : decide ((N : Int) < 0) = false := by simp
  have d2 : decide ((65536 : Int) < (N : Int)) = false := by simp; omega
  have HE : Hid (fE b (N : Int) = (endS b (fst_ b N).1 (fst_ b N).2).1) := by
    unfold fE
    rw [if_neg (by omega), Int.toNat_natCast]
    try exact Lib.hid rfl
  have HG : Hid (fG b (N : Int) = if fE b (N : Int) = 0 then ups (fM b) (fD b N) else []) := by
    unfold fG
    rw [Int.toNat_natCast]
    try exact Lib.hid rfl
  have hok := fun h => fD_ok hb hN (k := N) h
  have hv0 := vv_lt hb 0
  have hM64 := fM_in hb
  have hst : fst_ b N = (raS b (vst b 1).1 (vst b 1).2 (N : Int) (fM b)).2 := by unfold fst_; rw [if_neg (by omega)]
  have hfd : fD b N = (raS b (vst b 1).1 (vst b 1).2 (N : Int) (fM b)).1 := by unfold fD; rw [if_neg (by omega)]
  have hM : zagI (vv b 0 : Int) = fM b := rfl
  obtain ⟨m, hm⟩ : ∃ m, m = fM b := ⟨_, rfl⟩
  rw [← hm] at hM64 hst hfd hM hok HG
  have HB := Lib.hid hb; have HOK := Lib.hid hok; have HST := Lib.hid hst; have HFD := Lib.hid hfd; have HM := Lib.hid hM
  clear hb hok hst hfd hM hm
  go_enter Tryz.func162, Tryz.ntmps162
  go_wp2_with fail
  refine (newReader_any A n c b w hr hn HB.out).mono ?_
  rintro e w1 ⟨g, A1, c1, rfl, hg, hR1, hb1⟩
  have hS1 := rd_new hR1
  have hz1 := hb1.size
  clear hR1
  go_wp2_with fail
  refine (var_0 hS1).mono ?_
  rintro e w3 ⟨rfl, hS3, hG3⟩
  have hb3 : Below w.heap.size w w3 := hb1.grown hG3 hb1.size (fun j hj => by injection hj with hj; omega)
  clear hS1 hG3
  go_wp2_with fail
  refine (zag_any (vv b 0) w3 hv0).mono ?_
  rintro e w' ⟨rfl, rfl⟩
  rw [HM.out]
  have hcall := above_any (N : Int) m hS3 (by omega) hM64
  rw [← HFD.out, ← HST.out] at hcall
  have HC := Lib.hid hcall
  have hgl := hS3.lt
  clear hcall hS3
  go_wp2_with fail
  refine HC.out.mono ?_
  rintro e w5 ⟨v5, rfl, hown5, hS5, hG5⟩
  have hb5 : Below w.heap.size w w5 := hb3.grown hG5 hb3.size (fun j hj => by injection hj with hj; omega)
  obtain ⟨A5, c5, rfl, _, _, r5⟩ := own_slice hown5
  have hcl := end_is (hmet.next hb5) hS5
  obtain ⟨r, hr0⟩ : ∃ r, r = (endS b (fst_ b N).1 (fst_ b N).2).1 := ⟨_, rfl⟩
  obtain ⟨o, ho⟩ : ∃ o : Int, o = ((endS b (fst_ b N).1 (fst_ b N).2).2 : Int) := ⟨_, rfl⟩
  rw [← hr0, ← ho] at hcl
  rw [← hr0] at HE
  have HCL := Lib.hid hcl
  clear hr0 ho hcl hS5 hG5 hown5 HC hb3
  go_wp2_with fail
  refine HCL.out.mono ?_
  rintro e wy ⟨he, hby⟩
  have he' : e = .returned (.tuple #[.int .i64 r, .int .i64 o]) := he
  subst he'
  clear he HCL
  have hb0y := hb5.trans (hby.mono hb5.size)
  have ry := r5.next hby
  clear r5 hb5 hby
  by_cases hrz : r = 0
  · subst hrz
    obtain ⟨hlen, hfit⟩ := HOK.out HE.out
    have HG' : Hid (fG b (N : Int) = ups m (fD b N)) := Lib.hid (by rw [HG.out, HE.out, if_pos rfl])
    obtain ⟨D, hD⟩ : ∃ D, D = fD b N := ⟨_, rfl⟩
    rw [← hD] at hlen hfit HG' ry ⊢
    have hXz : (zs (ups m D)).length = N := by rw [zs_length, ups_length, hlen]
    have hmk := fun W => run_make_i64 N N (Nat.le_refl _) (by omega) W
    rw [← fillW_zero (zs (ups m D)) (.int .i64 0) N hXz] at hmk
    have hF0 := Blk.new wy 2 (fillW (zs (ups m D)) (.int .i64 0) 0)
    have hb0 : Below wy.heap.size wy (wy.alloc (.cells (fillW (zs (ups m D)) (.int .i64 0) 0) 2)) := (Below.refl _ _).alloc (Nat.le_refl _) _
    have HX := Lib.hid hXz; have HFT := Lib.hid hfit; have HLN := Lib.hid hlen
    rw [hlen] at ry ⊢
    clear hXz hfit hlen hD HOK
    go_wp2_with fail
    clear hmk
    go_loopw [43] (fun s43 wr => ∃ k : Nat, k ≤ N ∧ s43 = .int .i64 (k : Int) ∧ Blk wr wy.heap.size 2 (fillW (zs (ups m D)) (.int .i64 0) k) ∧ Below wy.heap.size wy wr) (fun i _ => N - (intOf i).toNat)
    case atStart => exact ⟨0, by omega, rfl, hF0, hb0⟩
    case round =>
      clear hF0 hb0
      obtain ⟨k, hk, rfl, hF, hbr⟩ := hrel
      by_cases hlt : k < N
      · obtain ⟨ad, u, rfl, _, hu, hc0⟩ := (ry.below hbr).at_ hlt
        obtain ⟨d, hd, rfl⟩ := us_at hu
        have hdr := HFT.out d (List.mem_of_getElem? hd)
        have hup := up_eq hM64 hdr
        have hc := hF.cell k
        rw [fillW_old _ _ k (by rw [HX.out]; omega)] at hc
        have hf := hF.frozen k
        have HZ := Lib.hid (ups_at (m := m) hd)
        have HUP := Lib.hid hup
        clear hu hd hup
        go_wp2_with fail
        go_round
        case rel =>
          refine ⟨k + 1, by omega, by go_num, ?_, hbr.setCell (Nat.le_refl _) _⟩
          have h1 := hF.set_ k (.int .i64 (m + (d : Int)))
          rw [fillW_next _ _ k _ HZ.out, ← HUP.out] at h1
          exact h1
        case measure => simp [intOf]; omega
      · obtain rfl : k = N := by omega
        go_wp2_with fail
        go_ret2
        rw [fillW_all _ _ k HX.out] at hF
        have hown := own_whole (B := w.heap.size) hF hb0y.size HX.out (by unfold maxLen; omega)
        rw [HG'.out, HE.out]
        refine ⟨_, rfl, ?_, hb0y.trans (hbr.mono hb0y.size)⟩
        rw [ups_length, HLN.out]
        exact hown
  · have q1 : (r == 0) = false := by simp [hrz]
    have q2 : (r != 0) = true := by simp [hrz]
    have H0 := Lib.hid hrz
    clear hrz
    go_wp2_with fail
    go_ret2
    rw [HG.out, HE.out, if_neg H0.out]
    exact ⟨.slice none 0 0, rfl, own_nil _ _ _ _, hb0y⟩
theorem foGet_any (A : Option Addr) (n c : Nat) (k : Int) (b : List Nat) (w : World) (hr : Reads w w.heap.size 1 A n (bs b)) (hb : ∀ x ∈ b, x < 256) (hn : n ≤ 140737488355328) (hmet : Met w) :
    Calls Tryz.prog 162 #[.slice A n c, .int .i64 k] w (NewLE w (fG b k) (fE b k)) := by
  by_cases h : k < 0 ∨ 65536 < k
  · exact foGet_no A n c b k w h
  · obtain ⟨N, rfl⟩ : ∃ N : Nat, k = (N : Int) := ⟨k.toNat, by omega⟩
    rcases Nat.eq_zero_or_pos N with h0 | h0
    · subst h0; exact foGet_zero A n c b w hr hb hn hmet
    · exact foGet_ok A n c N b w hr hb hn (by omega) h0 hmet
end Go.Proofs.YticanhidahkhfaaGreatDoor
namespace Go.Proofs.YticanhidahkhfaaGreatDoor
open Go.RowKit
set_option linter.unusedVariables false
set_option linter.unusedSimpArgs false
set_option maxRecDepth 100000
theorem pcGetS_no (A : Option Addr) (n c : Nat) (k : Int) (f : Value) (w : World) (h : k < 0 ∨ 65536 < k) :
    Calls Tryz.prog 235 #[.slice A n c, .int .i64 k, f] w fun e w' => e = .returned (.tuple #[.slice none 0 0, .int .i64 1]) ∧ w = w' := by
  by_cases hk : k < 0
  · clear h
    go_enter Tryz.func235, Tryz.ntmps235
    go_wp2_with fail
    go_ret2
    exact ⟨rfl, rfl⟩
  · have d1 : decide (k < 0) = false := by simp; omega
    have h2 : 65536 < k := by omega
    clear h
    go_enter Tryz.func235, Tryz.ntmps235
    go_wp2_with fail
    go_ret2
    exact ⟨rfl, rfl⟩
def GotS (w : World) (G : List Value) (E : Int) (e : Ending) (w' : World) : Prop := ∃ v, e = .returned (.tuple #[v, .int .i64 E]) ∧ w'.ownsRow w.heap.size 9 1 v G.length G ∧ Below w.heap.size w w'
set_option maxHeartbeats 2000000 in
theorem pcGetS_any (A : Option Addr) (n c N : Nat) (b : List Nat) (a0 : Nat) (x0 : Option (Int × Nat)) (Q : List Value → Prop) (E : Int) (G : List Value) (w : World) (hr : Reads w w.heap.size 1 A n (bs b)) (hb : ∀ x ∈ b, x < 256) (hn : n ≤ 140737488355328) (hN : N ≤ 65536) (hmet : Met w)
    (hrl : ∀ (w : World) (g : Nat), Met w → RdS w g b 0 none → Calls Tryz.prog 236 #[.pointer (some ⟨g, 0, none⟩), .int .i64 (N : Int)] w
      fun e w' => ∃ v X, e = .returned v ∧ w'.ownsRow w.heap.size 9 1 v X.length X ∧ Q X ∧ RdTo w g b a0 x0 w')
    (hsp : ∀ X, Q X → X.length ≤ 65536 ∧ (endS b (rpS b a0 x0 N X.length).2.1 (rpS b a0 x0 N X.length).2.2).1 = E ∧
      (E = 0 → (rpS b a0 x0 N X.length).1.length = N ∧ G.length = N ∧ ∀ (k p : Nat), (rpS b a0 x0 N X.length).1[k]? = some p → ∃ u : ByteArray, X[p]? = some (.string u) ∧ G[k]? = some (.string u)))
    (hG : E ≠ 0 → G = []) :
    Calls Tryz.prog 235 #[.slice A n c, .int .i64 (N : Int), .func (.func 236) #[] #[]] w (GotS w G E) := by
  have d1 : decide ((N : Int) < 0) = false := by simp
  have d2 : decide ((65536 : Int) < (N : Int)) = false := by simp; omega
  have HB := Lib.hid hb; have HRL := Lib.hid hrl; have HSP := Lib.hid hsp; have HG := Lib.hid hG
  clear hb hrl hsp hG
  go_enter Tryz.func235, Tryz.ntmps235
  go_wp2_with fail
  refine (newReader_any A n c b w hr hn HB.out).mono ?_
  rintro e w1 ⟨g, A1, c1, rfl, hg, hR1, hb1⟩
  have hS1 := rd_new hR1
  have hg1 := hS1.lt
  have hz1 := hb1.size
  clear hR1
  go_wp2_with fail
  refine (HRL.out w1 g (hmet.next hb1) hS1).mono ?_
  rintro e w2 ⟨v2, X, rfl, hown2, hQ, hS2, hG2⟩
  obtain ⟨A2, c2, rfl, _, _, _⟩ := own_slice hown2
  have hb2 : Below w.heap.size w w2 := hb1.grown hG2 hb1.size (fun j hj => by injection hj with hj; omega)
  have hz2 := hG2.size
  obtain ⟨hX, hE, hz⟩ := HSP.out X hQ
  have HRP := Lib.hid (places_any N X.length hS2 hN hX)
  obtain ⟨S, hS⟩ : ∃ S, S = rpS b a0 x0 N X.length := ⟨_, rfl⟩
  rw [← hS] at hE hz HRP
  have hPl : S.1.length ≤ 65536 := by rw [hS]; unfold rpS; exact (unpackS_all _ _ _).2
  obtain ⟨P, hP⟩ : ∃ P, P = S.1 := ⟨_, rfl⟩
  rw [← hP] at hz HRP hPl
  have HZ := Lib.hid hz; have HE := Lib.hid hE
  clear hS1 hb1 hG2 hz hE hS2 hS hP hQ HRL HSP
  go_wp2_with fail
  refine HRP.out.mono ?_
  rintro e w3 ⟨v3, rfl, hown3, hS3, hG3⟩
  obtain ⟨A3, c3, rfl, _, _, _⟩ := own_slice hown3
  have hb3 : Below w.heap.size w w3 := hb2.grown hG3 hb2.size (fun j hj => by injection hj with hj; omega)
  have hown23 := own_before hown2 hG3 (fun r hr => by injection hr with hr; omega)
  have hm3 := hmet.next hb3
  have hcl := end_is hm3 hS3
  obtain ⟨o, ho⟩ : ∃ o : Int, o = ((endS b S.2.1 S.2.2).2 : Int) := ⟨_, rfl⟩
  rw [HE.out, ← ho] at hcl
  have HCL := Lib.hid hcl
  clear ho hcl hS3 hb2 hG3 hown2 hm3 HE HRP
  go_wp2_with fail
  refine HCL.out.mono ?_
  rintro e w4 ⟨he, hb4⟩
  have he' : e = .returned (.tuple #[.int .i64 E, .int .i64 o]) := he
  subst he'
  clear he HCL
  have hb04 := hb3.trans (hb4.mono hb3.size)
  have hown24 := own_below hown23 hb4
  have hown34 := own_below hown3 hb4
  clear hown23 hown3 hb3 hb4
  by_cases hrz : E = 0
  · obtain ⟨hlen, hGl, hfit⟩ := HZ.out hrz
    subst hrz
    have hmk := fun W => run_make_str N N (Nat.le_refl _) (by omega) W
    rw [← fillW_zero G (.string ⟨#[]⟩) N hGl] at hmk
    have HX := Lib.hid hGl; have HF := Lib.hid hfit
    have r2 := Reads.of_own hown24
    have r3 := Reads.of_own hown34
    have hF0 := Blk.new w4 9 (fillW G (.string ⟨#[]⟩) 0)
    have hb40 : Below w4.heap.size w4 (w4.alloc (.cells (fillW G (.string ⟨#[]⟩) 0) 9)) := (Below.refl _ _).alloc (Nat.le_refl _) _
    clear hGl hfit hown24 hown34 HZ HG
    rw [hlen] at r3
    have HLEN := Lib.hid hlen
    rw [hlen]
    clear hlen
    go_wp2_with fail
    clear hmk
    go_loopw [45] (fun s45 wr => ∃ k : Nat, k ≤ N ∧ s45 = .int .i64 (k : Int) ∧ Blk wr w4.heap.size 9 (fillW G (.string ⟨#[]⟩) k) ∧ Below w4.heap.size w4 wr) (fun i _ => N - (intOf i).toNat)
    case atStart => exact ⟨0, Nat.zero_le _, rfl, hF0, hb40⟩
    case round =>
      clear hF0 hb40
      obtain ⟨k, hk, rfl, hF, hbr⟩ := hrel
      by_cases hlt : k < N
      · obtain ⟨ad, u, rfl, _, hu, hc0⟩ := (r3.below hbr).at_ hlt
        obtain ⟨a, ha, rfl⟩ := us_at hu
        obtain ⟨u2, hu2, hGk⟩ := HF.out k a ha
        have haX : a < X.length := (List.getElem?_eq_some_iff.1 hu2).1
        obtain ⟨ad2, u2', rfl, _, hu2', hc2⟩ := (r2.below hbr).at_ haX
        obtain rfl : Value.string u2 = u2' := by rw [hu2] at hu2'; exact Option.some.inj hu2'
        have HAT := Lib.hid hGk
        have hck := hF.cell k
        rw [fillW_old _ _ k (by rw [HX.out]; omega)] at hck
        have hfk := hF.frozen k
        clear hu ha hu2 hu2' hGk
        go_wp2_with fail
        go_round
        case rel =>
          refine ⟨k + 1, by omega, by go_num, ?_, hbr.setCell (Nat.le_refl _) _⟩
          have h1 := hF.set_ k (.string u2)
          rw [fillW_next _ _ k _ HAT.out] at h1
          exact h1
        case measure => simp [intOf]; omega
      · obtain rfl : k = N := by omega
        rw [fillW_all _ _ k HX.out] at hF
        have hown := own_whole (B := w4.heap.size) hF (Nat.le_refl _) HX.out (by unfold maxLen; omega)
        go_wp2_with fail
        go_ret2
        exact ⟨_, rfl, by rw [HX.out]; exact own_base hown hb04.size, hb04.trans (hbr.mono hb04.size)⟩
  · have q1 : (E == 0) = false := by simp [hrz]
    have q2 : (E != 0) = true := by simp [hrz]
    have hg0 := HG.out hrz
    subst hg0
    clear hrz hown24 hown34 HZ HG
    go_wp2_with fail
    go_ret2
    exact ⟨.slice none 0 0, rfl, own_nil _ _ _ _, hb04⟩
end Go.Proofs.YticanhidahkhfaaGreatDoor
namespace Go.Proofs.YticanhidahkhfaaGreatDoor
open Go.RowKit
set_option linter.unusedVariables false
set_option linter.unusedSimpArgs false
def lookB (l : List Nat) (most : Int) : Nat × Nat × Nat :=
  if (lookF 0 0 l).2.2 = 0 then
    if most < 0 ∨ most < ((lookF 0 0 l).1 : Int) then (0, 0, 12)
    else if l.length - (lookF 0 0 l).2.1 < (lookF 0 0 l).1 then (0, 0, 2)
    else ((lookF 0 0 l).2.1, (lookF 0 0 l).2.1 + (lookF 0 0 l).1, 0)
  else (0, 0, (lookF 0 0 l).2.2)
def blobS (l : List Nat) (at_ : Nat) (x : Option (Int × Nat)) (most : Int) : List Nat × Nat × Option (Int × Nat) :=
  match x with
  | some x => ([], at_, some x)
  | none => if (lookB (l.drop at_) most).2.2 = 0 then (((l.drop at_).take (lookB (l.drop at_) most).2.1).drop (lookB (l.drop at_) most).1, at_ + (lookB (l.drop at_) most).2.1, none) else ([], at_, some (((lookB (l.drop at_) most).2.2 : Int), at_))
end Go.Proofs.YticanhidahkhfaaGreatDoor
