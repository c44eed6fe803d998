import Derived.Deep.QuietTactic
import Derived.BigQuiet
import Derived.BigGuard
import Derived.Test.YtpgdlmnhomnblaaGreatDoorJ21
import Derived.Test.YtpgdlmnhomnblaaGreatDoorJ6
import Derived.Lib.QuietBelow
import Derived.Deep.Slices
import Derived.Test.YtpgdlmnhomnblaaGreatDoorJ4
import Derived.Deep.Matrix
namespace Go.Proofs.YtpgdlmnhomnblaaGreatDoor
open Go.RowKit
set_option linter.unusedVariables false
set_option linter.unusedSimpArgs false
set_option maxRecDepth 100000
theorem scE_cases (s : List Cl) : (s.length = 0 ∨ 64 < s.length → scE s = 12) ∧ (¬ (s.length = 0 ∨ 64 < s.length) → ((∃ c ∈ s, c.1 ≠ 1 ∧ c.1 ≠ 2) → scE s = 11) ∧ ((∀ c ∈ s, c.1 = 1 ∨ c.1 = 2) → ((∃ c ∈ s, c.2.2 ≠ -1 ∧ ofW c.2.2 c.1 = false) → scE s = 1) ∧ ((∀ c ∈ s, c.2.2 = -1 ∨ ofW c.2.2 c.1 = true) → scE s = 0))) := by
  refine ⟨fun h => by unfold scE; rw [if_pos h], fun h => ⟨fun h1 => by unfold scE; rw [if_neg h, if_pos h1], fun h1 => ?_⟩⟩
  have h1' : ¬ ∃ c ∈ s, c.1 ≠ 1 ∧ c.1 ≠ 2 := by
    rintro ⟨c, hc, e1, e2⟩
    rcases h1 c hc with e | e
    · exact e1 e
    · exact e2 e
  refine ⟨fun h2 => by unfold scE; rw [if_neg h, if_neg h1', if_pos h2], fun h2 => ?_⟩
  unfold scE
  rw [if_neg h, if_neg h1', if_neg]
  rintro ⟨c, hc, e1, e2⟩
  rcases h2 c hc with e | e
  · exact e1 e
  · rw [e] at e2; cases e2
set_option maxHeartbeats 1000000 in
theorem refSchema_any (A : Option Addr) (n c : Nat) (s : List Cl) (w : World) (hr : Reads w w.heap.size 3 A n (cls s)) (hn : n ≤ 140737488355328) :
    Calls Tryz.prog 23 #[.slice A n c] w fun e w' => e = .returned (.int .i64 (scE s)) ∧ Drawn w w' := by
  have e1 : s.length = n := by have := hr.1; rw [cls_length] at this; omega
  obtain ⟨q1, q2⟩ := scE_cases s
  obtain ⟨r, hr0⟩ : ∃ r, scE s = r := ⟨_, rfl⟩
  rw [hr0] at q1 q2 ⊢
  rw [e1] at q1 q2
  by_cases hb : n = 0 ∨ 64 < n
  · have hx := q1 hb
    subst hx
    rcases hb with rfl | hb
    · clear q1 q2 hr0 e1
      go_enter Tryz.func23, Tryz.ntmps23
      go_wp2_with fail
      go_ret
      exact ⟨rfl, Drawn.refl w⟩
    · have n0 : ¬ n = 0 := by omega
      have q : ((n : Int) == 0) = false := by simp; omega
      clear q1 q2 hr0 e1
      go_enter Tryz.func23, Tryz.ntmps23
      go_wp2_with fail
      go_ret
      exact ⟨rfl, Drawn.refl w⟩
  · obtain ⟨q3, q4⟩ := q2 hb
    have q : ((n : Int) == 0) = false := by simp; omega
    have d : decide ((64 : Int) < (n : Int)) = false := by simp; omega
    have hn64 : n ≤ 64 := by omega
    have HE : Hid (s.length = n) := Lib.hid e1
    have Q3 := Lib.hid q3
    have Q4 := Lib.hid q4
    clear e1 hr0 q1 q2 q3 q4 hb
    go_enter Tryz.func23, Tryz.ntmps23
    go_wp2_with fail
    go_loop [3] (fun i => ∃ k : Nat, k ≤ n ∧ i = .int .i64 (k : Int) ∧ Hid (∀ c ∈ s.take k, c.1 = 1 ∨ c.1 = 2)) (fun i => n - (intOf i).toNat)
    case atStart => exact ⟨0, Nat.zero_le _, rfl, Lib.hid (by simp)⟩
    case round =>
      obtain ⟨k, hk, rfl, HA⟩ := hrel
      by_cases hlt : k < n
      · obtain ⟨⟨kd, nu, wy⟩, hz⟩ : ∃ v, s[k]? = some v := ⟨_, List.getElem?_eq_getElem (by rw [HE.out]; omega)⟩
        obtain ⟨b, o, rfl, hb, x0, x1, x2⟩ := hr.col hz
        by_cases hkd : kd = 1 ∨ kd = 2
        · have HA2 : Hid (∀ c ∈ s.take (k + 1), c.1 = 1 ∨ c.1 = 2) := Lib.hid (by
            rw [take_snoc hz]
            intro c hc
            rcases List.mem_append.1 hc with hc | hc
            · exact HA.out c hc
            · rw [List.mem_singleton] at hc; subst hc; exact hkd)
          clear hz
          rcases hkd with rfl | rfl
          · go_wp2_with fail
            go_round
            case rel => exact ⟨k + 1, by omega, by go_num, HA2⟩
            case measure => simp [intOf]; omega
          · go_wp2_with fail
            go_round
            case rel => exact ⟨k + 1, by omega, by go_num, HA2⟩
            case measure => simp [intOf]; omega
        · have HR : Hid (r = 11) := Lib.hid (Q3.out ⟨_, List.mem_of_getElem? hz, by omega, by omega⟩)
          have q1 : (kd != 1) = true := by simp; omega
          have q2 : (kd != 2) = true := by simp; omega
          clear hz hkd
          go_wp2_with fail
          go_ret
          exact ⟨by rw [HR.out]; rfl, by first | exact Drawn.refl w | exact Drawn.one w _ | exact (Drawn.one w _).more _⟩
      · obtain rfl : k = n := by omega
        have HQ := Lib.hid (Q4.out (by have := HA.out; rwa [List.take_of_length_le (by rw [HE.out]; exact Nat.le_refl _)] at this))
        go_wp2_with fail
        clear hk hlt HA
        go_loopw [4] (fun i wr => ∃ j : Nat, j ≤ k ∧ i = .int .i64 (j : Int) ∧ Hid (∀ c ∈ s.take j, c.2.2 = -1 ∨ ofW c.2.2 c.1 = true) ∧ ∃ q, wr = w.drewN q) (fun i _ => k - (intOf i).toNat)
        case atStart => exact ⟨0, Nat.zero_le _, rfl, Lib.hid (by simp), 0, rfl⟩
        case round =>
          obtain ⟨j, hj, rfl, HJ, q0, rfl⟩ := hrel
          by_cases hlt : j < k
          · obtain ⟨⟨kd, nu, wy⟩, hz⟩ : ∃ v, s[j]? = some v := ⟨_, List.getElem?_eq_getElem (by rw [HE.out]; omega)⟩
            obtain ⟨b, o, rfl, hb, x0, x1, x2⟩ := hr.col hz
            have step : (wy = -1 ∨ ofW wy kd = true) → Hid (∀ c ∈ s.take (j + 1), c.2.2 = -1 ∨ ofW c.2.2 c.1 = true) := fun hh => Lib.hid (by
              rw [take_snoc hz]
              intro c hc
              rcases List.mem_append.1 hc with hc | hc
              · exact HJ.out c hc
              · rw [List.mem_singleton] at hc; subst hc; exact hh)
            have stop : wy ≠ -1 → ofW wy kd = false → r = 1 := fun h1 h2 => HQ.out.1 ⟨_, List.mem_of_getElem? hz, h1, h2⟩
            have HC := Lib.hid fun W => refOf_any wy kd W
            obtain ⟨g, hg⟩ : ∃ g, ofW wy kd = g := ⟨_, rfl⟩
            rw [hg] at HC step stop
            clear hz hg
            by_cases hw : wy = -1
            · have HS := step (.inl hw)
              subst hw
              clear step stop
              go_wp2_with fail
              go_quiet (fail)
              go_wp2_with fail
              exact ⟨⟨j + 1, by omega, by go_num, HS, _, rfl⟩, by simp [intOf]; omega⟩
            · have q1 : (wy != -1) = true := by simp [hw]
              cases g with
              | true =>
                have HS := step (.inr rfl)
                clear step stop
                go_wp2_with fail
                go_quiet ((go_at_call 51; first | exact quiet_same (HC.out _) | exact quiet_same0 (HC.out _)))
                go_wp2_with fail
                exact ⟨⟨j + 1, by omega, by go_num, HS, _, rfl⟩, by simp [intOf]; omega⟩
              | false =>
                have HR := Lib.hid (stop hw rfl)
                clear step stop
                go_wp2_with fail
                go_quiet ((go_at_call 51; first | exact quiet_same (HC.out _) | exact quiet_same0 (HC.out _)))
                go_wp2_with fail
                go_ret
                exact ⟨by rw [HR.out]; rfl, by first | exact Drawn.refl w | exact Drawn.one w _ | exact (Drawn.one w _).more _⟩
          · obtain rfl : j = k := by omega
            have HR := Lib.hid (HQ.out.2 (by have := HJ.out; rwa [List.take_of_length_le (by rw [HE.out]; exact Nat.le_refl _)] at this))
            go_wp2_with fail
            go_ret
            exact ⟨by rw [HR.out]; rfl, by first | exact Drawn.refl w | exact Drawn.one w _ | exact (Drawn.one w _).more _⟩
end Go.Proofs.YtpgdlmnhomnblaaGreatDoor
namespace Go.Proofs.YtpgdlmnhomnblaaGreatDoor
open Go.RowKit
set_option linter.unusedVariables false
set_option linter.unusedSimpArgs false
set_option maxRecDepth 100000
end Go.Proofs.YtpgdlmnhomnblaaGreatDoor
namespace Go.Proofs.YtpgdlmnhomnblaaGreatDoor
open Go.RowKit
set_option linter.unusedVariables false
set_option linter.unusedSimpArgs false
set_option maxRecDepth 100000
def wayB (way kd : Int) : Bool := decide (way = -1) || ofW way kd
theorem isWay_any (way kd : Int) (hk : kd = 1 ∨ kd = 2) (w : World) : Calls Tryz.prog 64 #[.int .i64 way, .int .i64 kd] w fun e w' => e = .returned (.bool (wayB way kd)) ∧ w = w' := by
  obtain ⟨r, hr⟩ : ∃ r, wayB way kd = r := ⟨_, rfl⟩
  rw [hr]
  unfold wayB ofW at hr
  go_enter Tryz.func64, Tryz.ntmps64
  by_cases h0 : way = -1
  · subst h0
    obtain rfl : r = true := by rw [← hr]; simp
    clear hr
    go_wp2_with fail
    go_ret
    exact ⟨rfl, rfl⟩
  · have q0 : (way == -1) = false := by simp [h0]
    rcases hk with rfl | rfl
    · by_cases h2 : 0 ≤ way
      · by_cases h3 : way ≤ 4
        · obtain rfl : r = true := by rw [← hr]; simp; omega
          clear hr h0
          go_wp2_with fail
          go_ret
          exact ⟨rfl, rfl⟩
        · obtain rfl : r = false := by rw [← hr]; simp; omega
          clear hr h0
          go_wp2_with fail
          go_ret
          exact ⟨rfl, rfl⟩
      · obtain rfl : r = false := by rw [← hr]; simp; omega
        clear hr h0
        go_wp2_with fail
        go_ret
        exact ⟨rfl, rfl⟩
    · by_cases h3 : way = 5
      · subst h3
        obtain rfl : r = true := by rw [← hr]; simp
        clear hr h0
        go_wp2_with fail
        go_ret
        exact ⟨rfl, rfl⟩
      · have q : (way == 5) = false := by simp [h3]
        obtain rfl : r = false := by rw [← hr]; simp; omega
        clear hr h0 h3
        go_wp2_with fail
        go_ret
        exact ⟨rfl, rfl⟩
set_option maxHeartbeats 1000000 in
theorem schemaV_any (A : Option Addr) (n c : Nat) (s : List Cl) (w : World) (hr : Reads w w.heap.size 3 A n (cls s)) (hn : n ≤ 9223372036854775807) :
    Calls Tryz.prog 39 #[.slice A n c] w fun e w' => e = .returned (.int .i64 (scE s)) ∧ Drawn w w' := by
  have e1 : s.length = n := by have := hr.1; rw [cls_length] at this; omega
  obtain ⟨q1, q2⟩ := scE_cases s
  obtain ⟨r, hr0⟩ : ∃ r, scE s = r := ⟨_, rfl⟩
  rw [hr0] at q1 q2 ⊢
  rw [e1] at q1 q2
  by_cases hb : n = 0 ∨ 64 < n
  · have hx := q1 hb
    subst hx
    rcases hb with rfl | hb
    · clear q1 q2 hr0 e1
      go_enter Tryz.func39, Tryz.ntmps39
      go_wp2_with fail
      go_ret
      exact ⟨rfl, Drawn.refl w⟩
    · have n0 : ¬ n < 1 := by omega
      have n1 : ¬ n = 0 := by omega
      clear q1 q2 hr0 e1
      go_enter Tryz.func39, Tryz.ntmps39
      go_wp2_with fail
      go_ret
      exact ⟨rfl, Drawn.refl w⟩
  · obtain ⟨q3, q4⟩ := q2 hb
    have n0 : ¬ n < 1 := by omega
    have n1 : ¬ n = 0 := by omega
    have n2 : ¬ 64 < n := by omega
    have hn64 : n ≤ 64 := by omega
    have HE : Hid (s.length = n) := Lib.hid e1
    have Q3 := Lib.hid q3
    have Q4 := Lib.hid q4
    clear e1 hr0 q1 q2 q3 q4 hb
    go_enter Tryz.func39, Tryz.ntmps39
    go_wp2_with fail
    go_loop [3, 15] (fun _ i => ∃ k : Nat, k ≤ n ∧ i = .int .i64 (k : Int) ∧ Hid (∀ c ∈ s.take k, c.1 = 1 ∨ c.1 = 2)) (fun _ i => n - (intOf i).toNat)
    case atStart => exact ⟨0, Nat.zero_le _, rfl, Lib.hid (by simp)⟩
    case round =>
      obtain ⟨k, hk, rfl, HA⟩ := hrel
      by_cases hlt : k < n
      · obtain ⟨⟨kd, nu, wy⟩, hz⟩ : ∃ v, s[k]? = some v := ⟨_, List.getElem?_eq_getElem (by rw [HE.out]; omega)⟩
        obtain ⟨b, o, rfl, hb, x0, x1, x2⟩ := hr.col hz
        by_cases hkd : kd = 1 ∨ kd = 2
        · have HA2 : Hid (∀ c ∈ s.take (k + 1), c.1 = 1 ∨ c.1 = 2) := Lib.hid (by
            rw [take_snoc hz]
            intro c hc
            rcases List.mem_append.1 hc with hc | hc
            · exact HA.out c hc
            · rw [List.mem_singleton] at hc; subst hc; exact hkd)
          clear hz
          rcases hkd with rfl | rfl
          · go_wp2_with fail
            go_round
            case rel => exact ⟨k + 1, by omega, by go_num, HA2⟩
            case measure => simp [intOf]; omega
          · go_wp2_with fail
            go_round
            case rel => exact ⟨k + 1, by omega, by go_num, HA2⟩
            case measure => simp [intOf]; omega
        · have HR : Hid (r = 11) := Lib.hid (Q3.out ⟨_, List.mem_of_getElem? hz, by omega, by omega⟩)
          have q1 : (kd != 1) = true := by simp; omega
          have q2 : (kd != 2) = true := by simp; omega
          clear hz hkd
          go_wp2_with fail
          go_ret
          exact ⟨by rw [HR.out]; rfl, by first | exact Drawn.refl w | exact Drawn.one w _ | exact (Drawn.one w _).more _⟩
      · obtain rfl : k = n := by omega
        have HQ := Lib.hid (Q4.out (by have := HA.out; rwa [List.take_of_length_le (by rw [HE.out]; exact Nat.le_refl _)] at this))
        have HK : Hid (∀ c ∈ s, c.1 = 1 ∨ c.1 = 2) := Lib.hid (by have := HA.out; rwa [List.take_of_length_le (by rw [HE.out]; exact Nat.le_refl _)] at this)
        go_wp2_with fail
        clear hk hlt HA
        go_loopw [4, 35] (fun _ i wr => ∃ j : Nat, j ≤ k ∧ i = .int .i64 (j : Int) ∧ Hid (∀ c ∈ s.take j, c.2.2 = -1 ∨ ofW c.2.2 c.1 = true) ∧ ∃ q, wr = w.drewN q) (fun _ i _ => k - (intOf i).toNat)
        case atStart => exact ⟨0, Nat.zero_le _, rfl, Lib.hid (by simp), 0, rfl⟩
        case round =>
          obtain ⟨j, hj, rfl, HJ, q0, rfl⟩ := hrel
          by_cases hlt : j < k
          · obtain ⟨⟨kd, nu, wy⟩, hz⟩ : ∃ v, s[j]? = some v := ⟨_, List.getElem?_eq_getElem (by rw [HE.out]; omega)⟩
            obtain ⟨b, o, rfl, hb, x0, x1, x2⟩ := hr.col hz
            have hkd : kd = 1 ∨ kd = 2 := HK.out _ (List.mem_of_getElem? hz)
            have step : (wy = -1 ∨ ofW wy kd = true) → Hid (∀ c ∈ s.take (j + 1), c.2.2 = -1 ∨ ofW c.2.2 c.1 = true) := fun hh => Lib.hid (by
              rw [take_snoc hz]
              intro c hc
              rcases List.mem_append.1 hc with hc | hc
              · exact HJ.out c hc
              · rw [List.mem_singleton] at hc; subst hc; exact hh)
            have stop : wy ≠ -1 → ofW wy kd = false → r = 1 := fun h1 h2 => HQ.out.1 ⟨_, List.mem_of_getElem? hz, h1, h2⟩
            have HC := Lib.hid fun W => isWay_any wy kd hkd W
            obtain ⟨g, hg⟩ : ∃ g, wayB wy kd = g := ⟨_, rfl⟩
            rw [hg] at HC
            clear hz
            cases g with
            | true =>
              have HS := step (by unfold wayB at hg; rw [Bool.or_eq_true] at hg; rcases hg with h | h; exact .inl (of_decide_eq_true h); exact .inr h)
              clear step stop hg hkd
              go_wp2_with fail
              go_quiet ((go_at_call 64; first | exact quiet_same (HC.out _) | exact quiet_same0 (HC.out _)))
              go_wp2_with fail
              exact ⟨⟨j + 1, by omega, by go_num, HS, _, rfl⟩, by simp [intOf]; omega⟩
            | false =>
              have HR := Lib.hid (stop (by unfold wayB at hg; rw [Bool.or_eq_false_iff] at hg; exact of_decide_eq_false hg.1) (by unfold wayB at hg; rw [Bool.or_eq_false_iff] at hg; exact hg.2))
              clear step stop hg hkd
              go_wp2_with fail
              go_quiet ((go_at_call 64; first | exact quiet_same (HC.out _) | exact quiet_same0 (HC.out _)))
              go_wp2_with fail
              go_ret
              exact ⟨by rw [HR.out]; rfl, by first | exact Drawn.refl w | exact Drawn.one w _ | exact (Drawn.one w _).more _⟩
          · obtain rfl : j = k := by omega
            have HR := Lib.hid (HQ.out.2 (by have := HJ.out; rwa [List.take_of_length_le (by rw [HE.out]; exact Nat.le_refl _)] at this))
            go_wp2_with fail
            go_ret
            exact ⟨by rw [HR.out]; rfl, by first | exact Drawn.refl w | exact Drawn.one w _ | exact (Drawn.one w _).more _⟩
end Go.Proofs.YtpgdlmnhomnblaaGreatDoor
namespace Go.Proofs.YtpgdlmnhomnblaaGreatDoor
open Go.RowKit
set_option linter.unusedVariables false
set_option linter.unusedSimpArgs false
set_option maxRecDepth 100000
theorem drop_at {α : Type} {l : List α} {k : Nat} {x : α} (h : l[k]? = some x) : l.drop k = x :: l.drop (k + 1) := by
  have hk : k < l.length := (List.getElem?_eq_some_iff.1 h).1
  rw [List.drop_eq_getElem_cons hk, (List.getElem?_eq_some_iff.1 h).2]
theorem colsE_step {s : List Cl} {r : List Vl} {k : Nat} {c : Cl} {v : Vl} (hc : s[k]? = some c) (hv : r[k]? = some v) : colsE (s.drop k) (r.drop k) = if colE c v ≠ 0 then colE c v else colsE (s.drop (k + 1)) (r.drop (k + 1)) := by
  rw [drop_at hc, drop_at hv, colsE]
theorem colE_11 {c : Cl} {v : Vl} (h : rgt c.1 v = false ∨ v.1 = 0 ∧ c.2.1 = false) : colE c v = 11 := by unfold colE; rw [if_pos h]
theorem colE_12 {c : Cl} {v : Vl} (h : ¬ (rgt c.1 v = false ∨ v.1 = 0 ∧ c.2.1 = false)) (h2 : 65536 < v.2.2.length) : colE c v = 12 := by unfold colE; rw [if_neg h, if_pos h2]
theorem colE_0 {c : Cl} {v : Vl} (h : ¬ (rgt c.1 v = false ∨ v.1 = 0 ∧ c.2.1 = false)) (h2 : ¬ 65536 < v.2.2.length) : colE c v = 0 := by unfold colE; rw [if_neg h, if_neg h2]
end Go.Proofs.YtpgdlmnhomnblaaGreatDoor
namespace Go.Proofs.YtpgdlmnhomnblaaGreatDoor
open Go.RowKit
set_option linter.unusedVariables false
set_option linter.unusedSimpArgs false
set_option maxRecDepth 100000
def mayB (c : Cl) (v : Vl) : Bool := rgt c.1 v && !(decide (v.1 = 0) && !c.2.1)
theorem mayB_yes {c : Cl} {v : Vl} (h : mayB c v = true) : ¬ (rgt c.1 v = false ∨ v.1 = 0 ∧ c.2.1 = false) := by
  unfold mayB at h
  rw [Bool.and_eq_true] at h
  rintro (e | ⟨e1, e2⟩)
  · rw [e] at h; simp at h
  · rw [e1, e2] at h; simp at h
theorem mayB_no {c : Cl} {v : Vl} (h : mayB c v = false) : rgt c.1 v = false ∨ v.1 = 0 ∧ c.2.1 = false := by
  unfold mayB at h
  rw [Bool.and_eq_false_iff] at h
  rcases h with h | h
  · exact .inl h
  · right; simpa using h
def cW (c : Cl) : Value := .agg #[.int .i64 c.1, .bool c.2.1, .int .i64 c.2.2]
set_option maxHeartbeats 1000000 in
theorem mayStand_any (c : Cl) (v : Vl) (w : World) : Calls Tryz.prog 65 #[vW v, cW c] w fun e w' => e = .returned (.bool (mayB c v)) ∧ Below w.heap.size w w' := by
  obtain ⟨r, hr⟩ : ∃ r, mayB c v = r := ⟨_, rfl⟩
  obtain ⟨v0, v1, z⟩ := v
  obtain ⟨kd, nu, wy⟩ := c
  rw [hr]
  unfold mayB rgt at hr
  simp only at hr
  rw [show vW (v0, v1, z) = .agg #[.int .i64 v0, .int .i64 v1, .string ⟨z.toArray⟩] from rfl, show cW (kd, nu, wy) = .agg #[.int .i64 kd, .bool nu, .int .i64 wy] from rfl]
  have hB : Below w.heap.size w ((w.alloc (.cells #[.int .i64 v0, .int .i64 v1, .string ⟨z.toArray⟩] 51)).alloc (.cells #[.int .i64 kd, .bool nu, .int .i64 wy] 53)) :=
    ((Below.refl _ _).alloc (Nat.le_refl _) _).alloc (by simp) _
  have qz : z = [] ∧ z.isEmpty = true ∨ z ≠ [] ∧ z.isEmpty = false := by cases z <;> simp
  go_enter Tryz.func65, Tryz.ntmps65
  by_cases h0 : v0 = 0
  · subst h0
    cases nu with
    | false =>
      obtain rfl : r = false := by rw [← hr]; simp
      clear hr qz
      go_wp2_with fail
      go_ret
      exact ⟨rfl, hB⟩
    | true =>
      by_cases h1 : v1 = 0
      · subst h1
        rcases qz with ⟨hz, q⟩ | ⟨hz, q⟩
        · obtain rfl : r = true := by rw [← hr]; simp [hz]
          clear hr hz
          go_wp2_with fail
          go_ret
          exact ⟨rfl, hB⟩
        · obtain rfl : r = false := by rw [← hr]; simp [hz]
          clear hr hz
          go_wp2_with fail
          go_ret
          exact ⟨rfl, hB⟩
      · have q : (v1 == 0) = false := by simp [h1]
        obtain rfl : r = false := by rw [← hr]; simp [h1]
        clear hr qz
        go_wp2_with fail
        go_ret
        exact ⟨rfl, hB⟩
  · have q0 : (v0 == 0) = false := by simp [h0]
    by_cases h1 : v0 = 1
    · subst h1
      by_cases hk : kd = 1
      · subst hk
        rcases qz with ⟨hz, q⟩ | ⟨hz, q⟩
        · obtain rfl : r = true := by rw [← hr]; simp [hz]
          clear hr hz
          go_wp2_with fail
          go_ret
          exact ⟨rfl, hB⟩
        · obtain rfl : r = false := by rw [← hr]; simp [hz]
          clear hr hz
          go_wp2_with fail
          go_ret
          exact ⟨rfl, hB⟩
      · have qk : (kd == 1) = false := by simp [hk]
        obtain rfl : r = false := by rw [← hr]; simp; omega
        clear hr qz hk
        go_wp2_with fail
        go_ret
        exact ⟨rfl, hB⟩
    · have q1 : (v0 == 1) = false := by simp [h1]
      by_cases h2 : v0 = 2
      · subst h2
        by_cases hk : kd = 2
        · subst hk
          by_cases h3 : v1 = 0
          · subst h3
            obtain rfl : r = true := by rw [← hr]; simp
            clear hr qz
            go_wp2_with fail
            go_ret
            exact ⟨rfl, hB⟩
          · have q : (v1 == 0) = false := by simp [h3]
            obtain rfl : r = false := by rw [← hr]; simp [h3]
            clear hr qz
            go_wp2_with fail
            go_ret
            exact ⟨rfl, hB⟩
        · have qk : (kd == 2) = false := by simp [hk]
          obtain rfl : r = false := by rw [← hr]; simp; omega
          clear hr qz hk
          go_wp2_with fail
          go_ret
          exact ⟨rfl, hB⟩
      · have q2 : (v0 == 2) = false := by simp [h2]
        obtain rfl : r = false := by rw [← hr]; simp [h0]; omega
        clear hr qz h0 h1 h2
        go_wp2_with fail
        go_ret
        exact ⟨rfl, hB⟩
set_option maxHeartbeats 2000000 in
theorem rowV_any (A A' : Option Addr) (n c n' c' : Nat) (s : List Cl) (row : List Vl) (w : World) (hs : Reads w w.heap.size 3 A n (cls s)) (hr : Reads w w.heap.size 3 A' n' (vs row)) (hn : n ≤ 140737488355328) (hn' : n' ≤ 140737488355328) :
    Calls Tryz.prog 40 #[.slice A n c, .slice A' n' c'] w fun e w' => e = .returned (.int .i64 (rwE s row)) ∧ Below w.heap.size w w' := by
  have e1 : s.length = n := by have := hs.1; rw [cls_length] at this; omega
  have e2 : row.length = n' := by have := hr.1; rw [vs_length] at this; omega
  obtain ⟨R, hR⟩ : ∃ R, rwE s row = R := ⟨_, rfl⟩
  rw [hR]
  unfold rwE at hR
  by_cases hne : n' = n
  · subst hne
    rw [if_neg (by omega)] at hR
    have HQ0 : Hid (colsE (s.drop 0) (row.drop 0) = R) := Lib.hid (by simpa using hR)
    have HE1 := Lib.hid e1; have HE2 := Lib.hid e2
    clear e1 e2 hR
    go_enter Tryz.func40, Tryz.ntmps40
    go_wp2_with fail
    go_loopw [5, 13] (fun _ i wr => ∃ k : Nat, k ≤ n' ∧ i = .int .i64 (k : Int) ∧ Hid (colsE (s.drop k) (row.drop k) = R) ∧ Below w.heap.size w wr) (fun _ i _ => n' - (intOf i).toNat)
    case atStart => exact ⟨0, Nat.zero_le _, rfl, HQ0, Below.refl _ _⟩
    case round =>
      clear HQ0
      obtain ⟨k, hk, rfl, HQ, hb⟩ := hrel
      by_cases hlt : k < n'
      · obtain ⟨⟨kd, nu, wy⟩, hc⟩ : ∃ v, s[k]? = some v := ⟨_, List.getElem?_eq_getElem (by rw [HE1.out]; omega)⟩
        obtain ⟨⟨v0, v1, z⟩, hv⟩ : ∃ v, row[k]? = some v := ⟨_, List.getElem?_eq_getElem (by rw [HE2.out]; omega)⟩
        obtain ⟨b, o, rfl, hb0, y0, y1, y2⟩ := (hs.below hb).col hc
        obtain ⟨b', o', rfl, hb0', x0, x1, x2⟩ := (hr.below hb).val hv
        have k0 := cell_regrown x0; have k1 := cell_regrown x1; have k2 := cell_regrown x2
        have j0 := cell_regrown y0; have j1 := cell_regrown y1; have j2 := cell_regrown y2
        have hstep := HQ.out
        rw [colsE_step hc hv] at hstep
        have hzs : (⟨z.toArray⟩ : ByteArray).size = z.length := by simp [ByteArray.size]
        have hy : Yields wr.heap.size wr 65 #[vW (v0, v1, z), cW (kd, nu, wy)] (.bool (mayB (kd, nu, wy) (v0, v1, z))) := fun V hbV => (mayStand_any (kd, nu, wy) (v0, v1, z) V).mono fun e w' ⟨he, hb'⟩ => ⟨he, hbV.trans (hb'.mono hbV.size)⟩
        rw [show vW (v0, v1, z) = .agg #[.int .i64 v0, .int .i64 v1, .string ⟨z.toArray⟩] from rfl, show cW (kd, nu, wy) = .agg #[.int .i64 kd, .bool nu, .int .i64 wy] from rfl] at hy
        obtain ⟨g, hg⟩ : ∃ g, mayB (kd, nu, wy) (v0, v1, z) = g := ⟨_, rfl⟩
        rw [hg] at hy
        have c11 := fun h => colE_11 (c := (kd, nu, wy)) (v := (v0, v1, z)) (mayB_no h)
        have c12 := fun h => colE_12 (c := (kd, nu, wy)) (v := (v0, v1, z)) (mayB_yes h)
        have c00 := fun h => colE_0 (c := (kd, nu, wy)) (v := (v0, v1, z)) (mayB_yes h)
        rw [hg] at c11 c12 c00
        obtain ⟨X, hX⟩ : ∃ X, colE (kd, nu, wy) (v0, v1, z) = X := ⟨_, rfl⟩
        rw [hX] at hstep c11 c12 c00
        have HY := Lib.hid hy
        clear hc hv hg hy HQ hX
        cases g with
        | false =>
          have HR : Hid (R = 11) := Lib.hid (by rw [← hstep, c11 rfl, if_pos (by decide)])
          clear hstep c11 c12 c00
          go_wp2_with fail
          refine wp_region_quiet_below (by kernel_rfl) (by kernel_rfl) ?_
          repeat (go_big_quiet_step (first | (go_at_call 65; exact HY.out.quiet _ _)))
          refine wpQuiet_nil ?_
          intro _ hw'
          obtain ⟨p, hw''⟩ := hw'
          subst hw''
          have hbp := hb.trans ((below_regrown wr p.d p.os).mono hb.size)
          have cz := k2 p.d p.os
          go_wp2_with fail
          go_ret
          exact ⟨by rw [HR.out]; rfl, hbp⟩
        | true =>
          have h12 : 65536 < z.length → R = 12 := fun h => by rw [← hstep, c12 rfl h, if_pos (by decide)]
          have h0 : ¬ 65536 < z.length → colsE (s.drop (k + 1)) (row.drop (k + 1)) = R := fun h => by rw [← hstep, c00 rfl h, if_neg (by decide)]
          clear hstep c11 c12 c00
          by_cases hzl : 65536 < z.length
          · have HR := Lib.hid (h12 hzl)
            have d1 : decide ((65536 : Int) < (z.length : Int)) = true := by simp; omega
            clear h12 h0 hzl
            go_wp2_with fail
            refine wp_region_quiet_below (by kernel_rfl) (by kernel_rfl) ?_
            repeat (go_big_quiet_step (first | (go_at_call 65; exact HY.out.quiet _ _)))
            refine wpQuiet_nil ?_
            intro _ hw'
            obtain ⟨p, hw''⟩ := hw'
            subst hw''
            have hbp := hb.trans ((below_regrown wr p.d p.os).mono hb.size)
            have cz := k2 p.d p.os
            go_wp2_with fail
            go_ret
            exact ⟨by rw [HR.out]; rfl, hbp⟩
          · have HN := Lib.hid (h0 hzl)
            have d1 : decide ((65536 : Int) < (z.length : Int)) = false := by simp; omega
            clear h12 h0 hzl
            go_wp2_with fail
            refine wp_region_quiet_below (by kernel_rfl) (by kernel_rfl) ?_
            repeat (go_big_quiet_step (first | (go_at_call 65; exact HY.out.quiet _ _)))
            refine wpQuiet_nil ?_
            intro _ hw'
            obtain ⟨p, hw''⟩ := hw'
            subst hw''
            have hbp := hb.trans ((below_regrown wr p.d p.os).mono hb.size)
            have cz := k2 p.d p.os
            go_wp2_with fail
            go_round
            case rel => exact ⟨k + 1, by omega, by go_num, HN, hbp⟩
            case measure => simp [intOf]; omega
      · obtain rfl : k = n' := by omega
        have HR : Hid (R = 0) := Lib.hid (by
          have h1 : s.drop k = [] := List.drop_eq_nil_of_le (by rw [HE1.out]; exact Nat.le_refl _)
          have := HQ.out
          rw [h1] at this
          rw [← this]; rfl)
        clear HQ
        go_wp2_with fail
        go_ret
        exact ⟨by rw [HR.out]; rfl, hb⟩
  · rw [if_pos (by omega)] at hR
    subst hR
    have q : ((n' : Int) != (n : Int)) = true := by simp; omega
    clear e1 e2 hne
    go_enter Tryz.func40, Tryz.ntmps40
    go_wp2_with fail
    go_ret
    exact ⟨rfl, Below.refl _ _⟩
end Go.Proofs.YtpgdlmnhomnblaaGreatDoor
namespace Go.Proofs.YtpgdlmnhomnblaaGreatDoor
open Go.ChangeShapes Go.WideShapes Go.RowKit
set_option linter.unusedVariables false
set_option linter.unusedSimpArgs false
set_option maxRecDepth 100000
def IsV (w : World) (v : Value) (l : List (Int × Int × Tx)) : Prop := ∃ A c, v = .slice A l.length c ∧ Reads w w.heap.size 3 A l.length (vs l)
theorem IsV.next {w w' : World} {v : Value} {l : List (Int × Int × Tx)} (h : IsV w v l) (hb : Below w.heap.size w w') : IsV w' v l := by
  obtain ⟨A, c, e, hr⟩ := h
  exact ⟨A, c, e, (hr.below hb).more hb.size⟩
theorem IsV.one {w : World} {v : Value} {l : List (Int × Int × Tx)} (h : IsV w v l) : v.oneCell' = true := by
  obtain ⟨A, c, rfl, _⟩ := h; rfl
def VV (w : World) (A : Option Addr) (rows : List (List (Int × Int × Tx))) : Prop := ∃ us : List Value, Reads w w.heap.size 1 A rows.length us ∧ ∀ (k : Nat) (r : List (Int × Int × Tx)), rows[k]? = some r → ∃ u : Value, us[k]? = some u ∧ IsV w u r
theorem VV.next {w w' : World} {A : Option Addr} {rows : List (List (Int × Int × Tx))} (h : VV w A rows) (hb : Below w.heap.size w w') : VV w' A rows := by
  obtain ⟨us, hr, he⟩ := h
  exact ⟨us, (hr.below hb).more hb.size, fun k r hk => by obtain ⟨u, h1, h2⟩ := he k r hk; exact ⟨u, h1, h2.next hb⟩⟩
theorem VV.none_ {w : World} : VV w none [] := ⟨[], Reads.none_, fun k r h => by simp at h⟩
def IsRowsV (w : World) (a : Option Addr) (len cap : Nat) (rows : List (List (Int × Int × Tx))) : Prop :=
  rows.length = len ∧ len ≤ cap ∧ cap ≤ maxLen ∧ VV w a rows ∧ ∀ r ∈ rows, ∀ v ∈ r, In64 v.1 ∧ In64 v.2.1
theorem rowsV_len {H : Type} {enc : TypeId × Value → H} {W : World} {a : Option Addr} {len cap : Nat} {d : DataW H} {p : List MemPlace} (h : DataW.Trod enc Tryz.prog W 0 (fun _ => true) true 23 (.slice a len cap) d p) :
    ∃ rows, IsRowsV W a len cap rows ∧ ∀ r ∈ rows, r.length ≤ maxLen := by
  obtain ⟨fuel, hf⟩ := h
  have hce : Tryz.prog.cellsOf 49 = 1 := by kernel_rfl
  rcases Go.Deep.open_slice1 Tryz.underlying23 hce hf with ⟨hcs, _⟩ | ⟨x, l, c, mm, nn, V, D, Pl, hcs, _, hl, hcm, hmm, _, hi⟩
  · simp [Value.cells] at hcs
    obtain ⟨rfl, rfl, rfl⟩ := hcs
    exact ⟨[], ⟨rfl, Nat.le_refl _, Nat.zero_le _, VV.none_, by simp⟩, by simp⟩
  · simp [Value.cells] at hcs
    obtain ⟨rfl, rfl, rfl⟩ := hcs
    have hall : ∀ j, ∃ r : List (Int × Int × Tx), j < len → IsV W (V j) r ∧ (∀ v ∈ r, In64 v.1 ∧ In64 v.2.1) ∧ r.length ≤ maxLen := by
      intro j
      by_cases hj : j < len
      · obtain ⟨_, ht⟩ := hi j (by rw [hmm]; simp; omega)
        have hsl : ∃ A1 l1 c1, V j = .slice A1 l1 c1 := by
          rcases Go.Deep.open_slice Tryz.underlying49 ht with ⟨e, _⟩ | ⟨a1, l1, c1, _, _, _, _, e, _⟩
          · exact ⟨none, 0, 0, by simpa using e⟩
          · exact ⟨some a1, l1, c1, by simpa using e⟩
        obtain ⟨A1, l1, c1, e⟩ := hsl
        rw [e] at ht
        obtain ⟨r, hr1, hr2, hr3, hr4, hr5⟩ := vals_of (a := A1) (len := l1) (cap := c1) ⟨nn, ht⟩
        exact ⟨r, fun _ => ⟨⟨A1, c1, by rw [e, hr1], by rw [hr1]; exact hr4⟩, hr5, by omega⟩⟩
      · exact ⟨[], fun h => absurd h hj⟩
    obtain ⟨f, hfn⟩ := Classical.axiomOfChoice hall
    refine ⟨(List.range len).map f, ⟨by simp, hl, hcm, ⟨(List.range len).map V, ⟨by simp, fun hn => ?_⟩, ?_⟩, ?_⟩, ?_⟩
    · refine ⟨x, rfl, ?_, fun j u hu => ?_⟩
      · have hn0 : 0 < len := by simpa using hn
        have := World.block_lt_of_cell? W _ (hi 0 (by rw [hmm]; simp; omega)).1
        rwa [block_of_add] at this
      · have hj : j < len := by
          have := (List.getElem?_eq_some_iff.1 hu).1
          simpa using this
        rw [List.getElem?_map, List.getElem?_range hj] at hu
        injection hu with hu
        rw [← hu]
        exact (hi j (by rw [hmm]; simp; omega)).1
    · intro k r hk
      have hj : k < len := by
        have := (List.getElem?_eq_some_iff.1 hk).1
        simpa using this
      rw [List.getElem?_map, List.getElem?_range hj] at hk
      injection hk with hk
      refine ⟨V k, by rw [List.getElem?_map, List.getElem?_range hj]; rfl, ?_⟩
      rw [← hk]
      exact (hfn k hj).1
    · intro r hr v hv
      obtain ⟨j, hj, rfl⟩ := List.mem_map.1 hr
      exact (hfn j (List.mem_range.1 hj)).2.1 v hv
    · intro r hr
      obtain ⟨j, hj, rfl⟩ := List.mem_map.1 hr
      exact (hfn j (List.mem_range.1 hj)).2.2
end Go.Proofs.YtpgdlmnhomnblaaGreatDoor
