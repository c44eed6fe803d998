/- Texts joined: HasU FoFit. -/
import Derived.Test.YtpjmenaejfdiaaaDoorJ14
import Derived.Test.YtpjmenaejfdiaaaDoorJ26
import Derived.Test.YtpjmenaejfdiaaaDoorJ12
import Derived.Test.YtpjmenaejfdiaaaDoorJ25
/- Contracts of the library's slices.Index and slices.Contains over uint64. -/
namespace Go.Proofs.YtpjmenaejfdiaaaDoor
open Go.RowKit
set_option linter.unusedVariables false
set_option linter.unusedSimpArgs false
set_option maxRecDepth 100000

/-- It isn't the number at that place. -/
def notAt (L : List Nat) (x : Nat) (j : Nat) : Bool := !decide (L[j]? = some x)
theorem notAt_all (L : List Nat) (x n : Nat) (h : L.length = n) : (!(List.range n).all (notAt L x)) = L.contains x := by
  rw [Bool.eq_iff_iff]
  constructor
  · intro h1
    have h2 : (List.range n).all (notAt L x) = false := by simpa using h1
    obtain ⟨j, hj, hf⟩ := List.all_eq_false.1 h2
    unfold notAt at hf
    have : L[j]? = some x := by simpa using hf
    simpa using List.mem_of_getElem? this
  · intro h1
    have h2 : x ∈ L := by simpa using h1
    obtain ⟨j, hj⟩ := List.getElem?_of_mem h2
    have hl := (List.getElem?_eq_some_iff.1 hj).1
    have h3 : (List.range n).all (notAt L x) = false := List.all_eq_false.2 ⟨j, by simp; omega, by simp [notAt, hj]⟩
    simp [h3]
theorem indexU_any (A : Option Addr) (n c : Nat) (L : List Nat) (x : Nat) (w : World) (hr : Reads w w.heap.size 1 A n (us L)) (hn : n ≤ 140737488355328) :
    Calls Tryd.prog 55 #[.slice A n c, .int .u64 (x : Int)] w fun e w' => e = .returned (.int .i64 (missI (notAt L x) n)) ∧ w = w' := by
  go_enter Tryd.func55, Tryd.ntmps55
  go_wp2_with fail
  go_loop [8] (fun s8 => ∃ k : Nat, k ≤ n ∧ s8 = .int .i64 (k : Int) ∧ ∀ j, j < k → notAt L x j = true) (fun i => n - (intOf i).toNat)
  case atStart => exact ⟨0, Nat.zero_le _, rfl, fun j h => absurd h (by omega)⟩
  case round =>
    obtain ⟨k, hk, rfl, hall⟩ := hrel
    obtain ⟨h1, h2⟩ := find_step hk hall
    by_cases hlt : k < n
    · obtain ⟨ad, u, rfl, _, hu, hc⟩ := hr.at_ hlt
      obtain ⟨a, ha, rfl⟩ := us_at hu
      by_cases hax : x = a
      · subst hax
        have HM := Lib.hid (h1 hlt (by simp [notAt, ha]))
        clear h1 h2 hall ha hu
        go_wp2_with fail
        go_ret
        exact ⟨by rw [HM.out]; rfl, rfl⟩
      · have q1 : ((x : Int) == (a : Int)) = false := by simp; omega
        have HALL : Hid (∀ j, j < k + 1 → notAt L x j = true) := Lib.hid fun j hj => by
          rcases Nat.lt_or_ge j k with h | h
          · exact hall j h
          · obtain rfl : j = k := by omega
            simp [notAt, ha]; omega
        clear h1 h2 hall ha hu hax
        go_wp2_with fail
        go_round
        case rel => exact ⟨k + 1, by omega, by go_num, HALL.out⟩
        case measure => simp [intOf]; omega
    · have HM := Lib.hid (h2 (by omega))
      clear h1 h2 hall
      go_wp2_with fail
      go_ret
      exact ⟨by rw [HM.out]; rfl, rfl⟩
theorem containsU_any (A : Option Addr) (n c : Nat) (L : List Nat) (x : Nat) (w : World) (hr : Reads w w.heap.size 1 A n (us L)) (hn : n ≤ 140737488355328) :
    Calls Tryd.prog 52 #[.slice A n c, .int .u64 (x : Int)] w fun e w' => e = .returned (.bool (L.contains x)) ∧ w = w' := by
  have hm := miss_all (f := notAt L x) (n := n)
  have HC := Lib.hid (indexU_any A n c L x w hr hn)
  have ha := notAt_all L x n (by have := hr.1; rw [us_length] at this; omega)
  obtain ⟨m, hme⟩ : ∃ m, m = missI (notAt L x) n := ⟨_, rfl⟩
  rw [← hme] at hm HC
  have HM : Hid (decide (0 ≤ m) = L.contains x) := Lib.hid (by
    rw [← ha]
    cases h : (List.range n).all (notAt L x) with
    | true =>
      have : ¬ 0 ≤ m := fun h1 => by have := hm.1 h1; rw [h] at this; cases this
      simp [this]
    | false => simp [hm.2 h])
  clear hm hme ha
  go_enter Tryd.func52, Tryd.ntmps52
  go_wp2_with fail
  refine HC.out.mono ?_
  rintro e w' ⟨rfl, rfl⟩
  go_wp2_with fail
  go_ret
  exact ⟨by rw [← HM.out]; rfl, rfl⟩
end Go.Proofs.YtpjmenaejfdiaaaDoor

/- Contracts of the library's slices.ContainsFunc over uint64 with fore's test, and of package fore's fit: whether these may be the differences to a least one. -/
namespace Go.Proofs.YtpjmenaejfdiaaaDoor
open Go.RowKit
set_option linter.unusedVariables false
set_option linter.unusedSimpArgs false
set_option maxRecDepth 100000

/-- The number at that place isn't above 'r'. -/
def lowAt (L : List Nat) (r : Nat) (j : Nat) : Bool := decide ((L[j]?).getD 0 ≤ r)
theorem lowAt_all (L : List Nat) (r n : Nat) (h : L.length = n) : (List.range n).all (lowAt L r) = L.all fun d => decide (d ≤ r) := by
  rw [Bool.eq_iff_iff, List.all_eq_true, List.all_eq_true]
  constructor
  · intro h1 d hd
    obtain ⟨j, hj⟩ := List.getElem?_of_mem hd
    have hl := (List.getElem?_eq_some_iff.1 hj).1
    have := h1 j (by simp; omega)
    simpa [lowAt, hj] using this
  · intro h1 j hj
    have hl : j < L.length := by simp at hj; omega
    have := h1 L[j] (List.getElem_mem hl)
    simpa [lowAt, List.getElem?_eq_getElem hl] using this
theorem beyond_any (g r d : Nat) (w : World) (hc : w.cell? ⟨g, 0, none⟩ = some (.int .u64 (r : Int))) :
    Calls Tryd.prog 51 #[.int .u64 (d : Int), .pointer (some ⟨g, 0, none⟩)] w fun e w' => e = .returned (.bool (decide (r < d))) ∧ w = w' := by
  go_enter Tryd.func51, Tryd.ntmps51
  go_wp2_with fail
  go_ret
  exact ⟨rfl, rfl⟩
theorem indexF_any (A : Option Addr) (n c g r : Nat) (L : List Nat) (w : World) (hr : Reads w w.heap.size 1 A n (us L)) (hn : n ≤ 140737488355328) (hg : w.cell? ⟨g, 0, none⟩ = some (.int .u64 (r : Int))) :
    Calls Tryd.prog 56 #[.slice A n c, .func (.func 51) #[] #[.pointer (some ⟨g, 0, none⟩)]] w fun e w' => e = .returned (.int .i64 (missI (lowAt L r) n)) ∧ w = w' := by
  go_enter Tryd.func56, Tryd.ntmps56
  go_wp2_with fail
  go_loop [8] (fun s8 => ∃ k : Nat, k ≤ n ∧ s8 = .int .i64 (k : Int) ∧ ∀ j, j < k → lowAt L r j = true) (fun i => n - (intOf i).toNat)
  case atStart => exact ⟨0, Nat.zero_le _, rfl, fun j h => absurd h (by omega)⟩
  case round =>
    obtain ⟨k, hk, rfl, hall⟩ := hrel
    obtain ⟨h1, h2⟩ := find_step hk hall
    by_cases hlt : k < n
    · obtain ⟨ad, u, rfl, _, hu, hc⟩ := hr.at_ hlt
      obtain ⟨a, ha, rfl⟩ := us_at hu
      by_cases hax : r < a
      · have HM := Lib.hid (h1 hlt (by simp [lowAt, ha]; omega))
        have q1 : decide (r < a) = true := by simp; omega
        have HB := beyond_any g r a w hg
        rw [q1] at HB
        have HB := Lib.hid HB
        clear h1 h2 hall ha hu hax q1
        go_wp2_with fail
        refine HB.out.mono ?_
        rintro e w' ⟨rfl, rfl⟩
        go_wp2_with fail
        go_ret
        exact ⟨by rw [HM.out]; rfl, rfl⟩
      · have q1 : decide (r < a) = false := by simp; omega
        have HALL : Hid (∀ j, j < k + 1 → lowAt L r j = true) := Lib.hid fun j hj => by
          rcases Nat.lt_or_ge j k with h | h
          · exact hall j h
          · obtain rfl : j = k := by omega
            simp [lowAt, ha]; omega
        have HB := beyond_any g r a w hg
        rw [q1] at HB
        have HB := Lib.hid HB
        clear h1 h2 hall ha hu hax q1
        go_wp2_with fail
        refine HB.out.mono ?_
        rintro e w' ⟨rfl, rfl⟩
        go_wp2_with fail
        go_round
        case rel => exact ⟨k + 1, by omega, by go_num, HALL.out⟩
        case measure => simp [intOf]; omega
    · have HM := Lib.hid (h2 (by omega))
      clear h1 h2 hall
      go_wp2_with fail
      go_ret
      exact ⟨by rw [HM.out]; rfl, rfl⟩
theorem containsF_any (A : Option Addr) (n c g r : Nat) (L : List Nat) (w : World) (hr : Reads w w.heap.size 1 A n (us L)) (hn : n ≤ 140737488355328) (hg : w.cell? ⟨g, 0, none⟩ = some (.int .u64 (r : Int))) :
    Calls Tryd.prog 53 #[.slice A n c, .func (.func 51) #[] #[.pointer (some ⟨g, 0, none⟩)]] w fun e w' => e = .returned (.bool (!L.all fun d => decide (d ≤ r))) ∧ w = w' := by
  have hm := miss_all (f := lowAt L r) (n := n)
  have HC := Lib.hid (indexF_any A n c g r L w hr hn hg)
  have ha := lowAt_all L r n (by have := hr.1; rw [us_length] at this; omega)
  obtain ⟨m, hme⟩ : ∃ m, m = missI (lowAt L r) n := ⟨_, rfl⟩
  rw [← hme] at hm HC
  have HM : Hid (decide (0 ≤ m) = !L.all fun d => decide (d ≤ r)) := Lib.hid (by
    rw [← ha]
    cases h : (List.range n).all (lowAt L r) with
    | true =>
      have : ¬ 0 ≤ m := fun h1 => by have := hm.1 h1; rw [h] at this; cases this
      simp [this]
    | false => simp [hm.2 h])
  clear hm hme ha
  go_enter Tryd.func53, Tryd.ntmps53
  go_wp2_with fail
  refine HC.out.mono ?_
  rintro e w' ⟨rfl, rfl⟩
  go_wp2_with fail
  go_ret
  exact ⟨by rw [← HM.out]; rfl, rfl⟩
theorem hmfF (fn : Fn) (first cap : Array Value) (w : World) : (Instr.makeFunc fn first cap).run Tryd.prog w = .ok (.func fn first cap) w := by rfl
set_option maxHeartbeats 1000000 in
theorem fit_any (A : Option Addr) (n c : Nat) (L : List Nat) (m : Int) (w : World) (hr : Reads w w.heap.size 1 A n (us L)) (hn : n ≤ 140737488355328) (hm : In64 m) :
    Calls Tryd.prog 37 #[.slice A n c, .int .i64 m] w fun e w' => e = .returned (.bool (fitB m L)) ∧ Below w.heap.size w w' := by
  have HD := Lib.hid (dist_any m 9223372036854775807 w hm (by unfold In64; omega) (by unfold In64 at hm; omega))
  obtain ⟨r, hr0⟩ : ∃ r, r = roomI m := ⟨_, rfl⟩
  have hr1 : (9223372036854775807 - m).toNat = r := hr0.symm
  rw [hr1] at HD
  have HF : Hid (fitB m L = (L.contains 0 && L.all fun d => decide (d ≤ r))) := Lib.hid (by rw [hr0]; rfl)
  have hb : Below w.heap.size w (w.alloc (.cells #[.int .u64 (r : Int)] 40)) := (Below.refl _ _).alloc (Nat.le_refl _) _
  have hr2 := (hr.below hb).more hb.size
  have hcell : (w.alloc (.cells #[.int .u64 (r : Int)] 40)).cell? ⟨w.heap.size, 0, none⟩ = some (.int .u64 (r : Int)) := by
    simp
  have HC1 := containsU_any A n c L 0 (w.alloc (.cells #[.int .u64 (r : Int)] 40)) hr2 hn
  have HC2 := containsF_any A n c w.heap.size r L (w.alloc (.cells #[.int .u64 (r : Int)] 40)) hr2 hn hcell
  have hmf' := hmfF
  clear hr0 hr1 hr hr2 hcell
  cases h0 : L.contains 0 with
  | false =>
    have HF' : Hid (fitB m L = false) := Lib.hid (by rw [HF.out, h0]; rfl)
    rw [h0] at HC1
    have HC1 := Lib.hid HC1
    clear h0 HC2 HF
    go_enter Tryd.func37, Tryd.ntmps37
    go_wp2_with fail
    refine HD.out.mono ?_
    rintro e w' ⟨rfl, rfl⟩
    go_wp2_with fail
    refine HC1.out.mono ?_
    rintro e w' ⟨rfl, rfl⟩
    go_wp2_with fail
    go_ret
    exact ⟨by rw [HF'.out]; rfl, hb⟩
  | true =>
    have HF' : Hid (fitB m L = !!(L.all fun d => decide (d ≤ r))) := Lib.hid (by rw [HF.out, h0]; simp)
    rw [h0] at HC1
    have HC1 := Lib.hid HC1
    generalize (!L.all fun d => decide (d ≤ r)) = q at HC2 HF'
    have HC2 := Lib.hid HC2
    clear h0 HF
    go_enter Tryd.func37, Tryd.ntmps37
    go_wp2_with fail
    refine HD.out.mono ?_
    rintro e w' ⟨rfl, rfl⟩
    go_wp2_with fail
    refine HC1.out.mono ?_
    rintro e w' ⟨rfl, rfl⟩
    go_wp2_with fail
    refine HC2.out.mono ?_
    rintro e w' ⟨rfl, rfl⟩
    go_wp2_with fail
    go_ret
    exact ⟨by rw [HF'.out]; rfl, hb⟩
end Go.Proofs.YtpjmenaejfdiaaaDoor
