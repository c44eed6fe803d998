/- Texts joined: VlRefSc VlSc Owned. -/
import Derived.Deep.QuietTactic
import Derived.BigQuiet
import Derived.BigGuard
import Derived.Test.YtieknhhhcjdbnaaDoorJ12
import Derived.Test.YtieknhhhcjdbnaaDoorJ22
import Derived.Test.YtieknhhhcjdbnaaDoorJ24
import Derived.RangeFuncOwn
import Derived.Test.YtieknhhhcjdbnaaDoorWords
/- Contracts of the document's Schema and Row: what is wrong with a schema, with a row. Nothing that was there changes. -/
namespace Go.Proofs.YtieknhhhcjdbnaaDoor
open Go.RowKit
set_option linter.unusedVariables false
set_option linter.unusedSimpArgs false
set_option maxRecDepth 100000

theorem scE_cases (s : List Cl) : (s.length = 0 ∨ 64 < s.length → scE s = 12) ∧ (¬ (s.length = 0 ∨ 64 < s.length) → ((∃ c ∈ s, c.1 ≠ 1 ∧ c.1 ≠ 2) → scE s = 11) ∧ ((∀ c ∈ s, c.1 = 1 ∨ c.1 = 2) → ((∃ c ∈ s, c.2.2 ≠ -1 ∧ ofW c.2.2 c.1 = false) → scE s = 1) ∧ ((∀ c ∈ s, c.2.2 = -1 ∨ ofW c.2.2 c.1 = true) → scE s = 0))) := by
  refine ⟨fun h => by unfold scE; rw [if_pos h], fun h => ⟨fun h1 => by unfold scE; rw [if_neg h, if_pos h1], fun h1 => ?_⟩⟩
  have h1' : ¬ ∃ c ∈ s, c.1 ≠ 1 ∧ c.1 ≠ 2 := by
    rintro ⟨c, hc, e1, e2⟩
    rcases h1 c hc with e | e
    · exact e1 e
    · exact e2 e
  refine ⟨fun h2 => by unfold scE; rw [if_neg h, if_neg h1', if_pos h2], fun h2 => ?_⟩
  unfold scE
  rw [if_neg h, if_neg h1', if_neg]
  rintro ⟨c, hc, e1, e2⟩
  rcases h2 c hc with e | e
  · exact e1 e
  · rw [e] at e2; cases e2
set_option maxHeartbeats 1000000 in
theorem refSchema_any (A : Option Addr) (n c : Nat) (s : List Cl) (w : World) (hr : Reads w w.heap.size 3 A n (cls s)) (hn : n ≤ 140737488355328) :
    Calls Tryd.prog 38 #[.slice A n c] w fun e w' => e = .returned (.int .i64 (scE s)) ∧ Drawn w w' := by
  have e1 : s.length = n := by have := hr.1; rw [cls_length] at this; omega
  obtain ⟨q1, q2⟩ := scE_cases s
  obtain ⟨r, hr0⟩ : ∃ r, scE s = r := ⟨_, rfl⟩
  rw [hr0] at q1 q2 ⊢
  rw [e1] at q1 q2
  by_cases hb : n = 0 ∨ 64 < n
  · have hx := q1 hb
    subst hx
    rcases hb with rfl | hb
    · clear q1 q2 hr0 e1
      go_enter Tryd.func38, Tryd.ntmps38
      go_wp2_with fail
      go_ret
      exact ⟨rfl, Drawn.refl w⟩
    · have n0 : ¬ n = 0 := by omega
      have q : ((n : Int) == 0) = false := by simp; omega
      clear q1 q2 hr0 e1
      go_enter Tryd.func38, Tryd.ntmps38
      go_wp2_with fail
      go_ret
      exact ⟨rfl, Drawn.refl w⟩
  · obtain ⟨q3, q4⟩ := q2 hb
    have q : ((n : Int) == 0) = false := by simp; omega
    have d : decide ((64 : Int) < (n : Int)) = false := by simp; omega
    have hn64 : n ≤ 64 := by omega
    have HE : Hid (s.length = n) := Lib.hid e1
    have Q3 := Lib.hid q3
    have Q4 := Lib.hid q4
    clear e1 hr0 q1 q2 q3 q4 hb
    go_enter Tryd.func38, Tryd.ntmps38
    go_wp2_with fail
    go_loop [3] (fun i => ∃ k : Nat, k ≤ n ∧ i = .int .i64 (k : Int) ∧ Hid (∀ c ∈ s.take k, c.1 = 1 ∨ c.1 = 2)) (fun i => n - (intOf i).toNat)
    case atStart => exact ⟨0, Nat.zero_le _, rfl, Lib.hid (by simp)⟩
    case round =>
      obtain ⟨k, hk, rfl, HA⟩ := hrel
      by_cases hlt : k < n
      · obtain ⟨⟨kd, nu, wy⟩, hz⟩ : ∃ v, s[k]? = some v := ⟨_, List.getElem?_eq_getElem (by rw [HE.out]; omega)⟩
        obtain ⟨b, o, rfl, hb, x0, x1, x2⟩ := hr.col hz
        by_cases hkd : kd = 1 ∨ kd = 2
        · have HA2 : Hid (∀ c ∈ s.take (k + 1), c.1 = 1 ∨ c.1 = 2) := Lib.hid (by
            rw [take_snoc hz]
            intro c hc
            rcases List.mem_append.1 hc with hc | hc
            · exact HA.out c hc
            · rw [List.mem_singleton] at hc; subst hc; exact hkd)
          clear hz
          rcases hkd with rfl | rfl
          · go_wp2_with fail
            go_round
            case rel => exact ⟨k + 1, by omega, by go_num, HA2⟩
            case measure => simp [intOf]; omega
          · go_wp2_with fail
            go_round
            case rel => exact ⟨k + 1, by omega, by go_num, HA2⟩
            case measure => simp [intOf]; omega
        · have HR : Hid (r = 11) := Lib.hid (Q3.out ⟨_, List.mem_of_getElem? hz, by omega, by omega⟩)
          have q1 : (kd != 1) = true := by simp; omega
          have q2 : (kd != 2) = true := by simp; omega
          clear hz hkd
          go_wp2_with fail
          go_ret
          exact ⟨by rw [HR.out]; rfl, by first | exact Drawn.refl w | exact Drawn.one w _ | exact (Drawn.one w _).more _⟩
      · obtain rfl : k = n := by omega
        have HQ := Lib.hid (Q4.out (by have := HA.out; rwa [List.take_of_length_le (by rw [HE.out]; exact Nat.le_refl _)] at this))
        go_wp2_with fail
        clear hk hlt HA
        go_loopw [4] (fun i wr => ∃ j : Nat, j ≤ k ∧ i = .int .i64 (j : Int) ∧ Hid (∀ c ∈ s.take j, c.2.2 = -1 ∨ ofW c.2.2 c.1 = true) ∧ ∃ q, wr = w.drewN q) (fun i _ => k - (intOf i).toNat)
        case atStart => exact ⟨0, Nat.zero_le _, rfl, Lib.hid (by simp), 0, rfl⟩
        case round =>
          obtain ⟨j, hj, rfl, HJ, q0, rfl⟩ := hrel
          by_cases hlt : j < k
          · obtain ⟨⟨kd, nu, wy⟩, hz⟩ : ∃ v, s[j]? = some v := ⟨_, List.getElem?_eq_getElem (by rw [HE.out]; omega)⟩
            obtain ⟨b, o, rfl, hb, x0, x1, x2⟩ := hr.col hz
            have step : (wy = -1 ∨ ofW wy kd = true) → Hid (∀ c ∈ s.take (j + 1), c.2.2 = -1 ∨ ofW c.2.2 c.1 = true) := fun hh => Lib.hid (by
              rw [take_snoc hz]
              intro c hc
              rcases List.mem_append.1 hc with hc | hc
              · exact HJ.out c hc
              · rw [List.mem_singleton] at hc; subst hc; exact hh)
            have stop : wy ≠ -1 → ofW wy kd = false → r = 1 := fun h1 h2 => HQ.out.1 ⟨_, List.mem_of_getElem? hz, h1, h2⟩
            have HC := Lib.hid fun W => refOf_any wy kd W
            obtain ⟨g, hg⟩ : ∃ g, ofW wy kd = g := ⟨_, rfl⟩
            rw [hg] at HC step stop
            clear hz hg
            by_cases hw : wy = -1
            · have HS := step (.inl hw)
              subst hw
              clear step stop
              go_wp2_with fail
              go_quiet (fail)
              go_wp2_with fail
              exact ⟨⟨j + 1, by omega, by go_num, HS, _, rfl⟩, by simp [intOf]; omega⟩
            · have q1 : (wy != -1) = true := by simp [hw]
              cases g with
              | true =>
                have HS := step (.inr rfl)
                clear step stop
                go_wp2_with fail
                go_quiet ((go_at_call 60; first | exact quiet_same (HC.out _) | exact quiet_same0 (HC.out _)))
                go_wp2_with fail
                exact ⟨⟨j + 1, by omega, by go_num, HS, _, rfl⟩, by simp [intOf]; omega⟩
              | false =>
                have HR := Lib.hid (stop hw rfl)
                clear step stop
                go_wp2_with fail
                go_quiet ((go_at_call 60; first | exact quiet_same (HC.out _) | exact quiet_same0 (HC.out _)))
                go_wp2_with fail
                go_ret
                exact ⟨by rw [HR.out]; rfl, by first | exact Drawn.refl w | exact Drawn.one w _ | exact (Drawn.one w _).more _⟩
          · obtain rfl : j = k := by omega
            have HR := Lib.hid (HQ.out.2 (by have := HJ.out; rwa [List.take_of_length_le (by rw [HE.out]; exact Nat.le_refl _)] at this))
            go_wp2_with fail
            go_ret
            exact ⟨by rw [HR.out]; rfl, by first | exact Drawn.refl w | exact Drawn.one w _ | exact (Drawn.one w _).more _⟩
end Go.Proofs.YtieknhhhcjdbnaaDoor

/- Contracts of package value's isWay and Schema: what is wrong with a schema. Nothing that was there changes. -/
namespace Go.Proofs.YtieknhhhcjdbnaaDoor
open Go.RowKit
set_option linter.unusedVariables false
set_option linter.unusedSimpArgs false
set_option maxRecDepth 100000

/-- May a column of a kind have the way? -/
def wayB (way kd : Int) : Bool := decide (way = -1) || ofW way kd
theorem isWay_any (way kd : Int) (hk : kd = 1 ∨ kd = 2) (w : World) : Calls Tryd.prog 43 #[.int .i64 way, .int .i64 kd] w fun e w' => e = .returned (.bool (wayB way kd)) ∧ w = w' := by
  obtain ⟨r, hr⟩ : ∃ r, wayB way kd = r := ⟨_, rfl⟩
  rw [hr]
  unfold wayB ofW at hr
  go_enter Tryd.func43, Tryd.ntmps43
  by_cases h0 : way = -1
  · subst h0
    obtain rfl : r = true := by rw [← hr]; simp
    clear hr
    go_wp2_with fail
    go_ret
    exact ⟨rfl, rfl⟩
  · have q0 : (way == -1) = false := by simp [h0]
    rcases hk with rfl | rfl
    · by_cases h2 : 0 ≤ way
      · by_cases h3 : way ≤ 4
        · obtain rfl : r = true := by rw [← hr]; simp; omega
          clear hr h0
          go_wp2_with fail
          go_ret
          exact ⟨rfl, rfl⟩
        · obtain rfl : r = false := by rw [← hr]; simp; omega
          clear hr h0
          go_wp2_with fail
          go_ret
          exact ⟨rfl, rfl⟩
      · obtain rfl : r = false := by rw [← hr]; simp; omega
        clear hr h0
        go_wp2_with fail
        go_ret
        exact ⟨rfl, rfl⟩
    · by_cases h3 : way = 5
      · subst h3
        obtain rfl : r = true := by rw [← hr]; simp
        clear hr h0
        go_wp2_with fail
        go_ret
        exact ⟨rfl, rfl⟩
      · have q : (way == 5) = false := by simp [h3]
        obtain rfl : r = false := by rw [← hr]; simp; omega
        clear hr h0 h3
        go_wp2_with fail
        go_ret
        exact ⟨rfl, rfl⟩
set_option maxHeartbeats 1000000 in
theorem schemaV_any (A : Option Addr) (n c : Nat) (s : List Cl) (w : World) (hr : Reads w w.heap.size 3 A n (cls s)) (hn : n ≤ 9223372036854775807) :
    Calls Tryd.prog 17 #[.slice A n c] w fun e w' => e = .returned (.int .i64 (scE s)) ∧ Drawn w w' := by
  have e1 : s.length = n := by have := hr.1; rw [cls_length] at this; omega
  obtain ⟨q1, q2⟩ := scE_cases s
  obtain ⟨r, hr0⟩ : ∃ r, scE s = r := ⟨_, rfl⟩
  rw [hr0] at q1 q2 ⊢
  rw [e1] at q1 q2
  by_cases hb : n = 0 ∨ 64 < n
  · have hx := q1 hb
    subst hx
    rcases hb with rfl | hb
    · clear q1 q2 hr0 e1
      go_enter Tryd.func17, Tryd.ntmps17
      go_wp2_with fail
      go_ret
      exact ⟨rfl, Drawn.refl w⟩
    · have n0 : ¬ n < 1 := by omega
      have n1 : ¬ n = 0 := by omega
      clear q1 q2 hr0 e1
      go_enter Tryd.func17, Tryd.ntmps17
      go_wp2_with fail
      go_ret
      exact ⟨rfl, Drawn.refl w⟩
  · obtain ⟨q3, q4⟩ := q2 hb
    have n0 : ¬ n < 1 := by omega
    have n1 : ¬ n = 0 := by omega
    have n2 : ¬ 64 < n := by omega
    have hn64 : n ≤ 64 := by omega
    have HE : Hid (s.length = n) := Lib.hid e1
    have Q3 := Lib.hid q3
    have Q4 := Lib.hid q4
    clear e1 hr0 q1 q2 q3 q4 hb
    go_enter Tryd.func17, Tryd.ntmps17
    go_wp2_with fail
    go_loop [3, 15] (fun _ i => ∃ k : Nat, k ≤ n ∧ i = .int .i64 (k : Int) ∧ Hid (∀ c ∈ s.take k, c.1 = 1 ∨ c.1 = 2)) (fun _ i => n - (intOf i).toNat)
    case atStart => exact ⟨0, Nat.zero_le _, rfl, Lib.hid (by simp)⟩
    case round =>
      obtain ⟨k, hk, rfl, HA⟩ := hrel
      by_cases hlt : k < n
      · obtain ⟨⟨kd, nu, wy⟩, hz⟩ : ∃ v, s[k]? = some v := ⟨_, List.getElem?_eq_getElem (by rw [HE.out]; omega)⟩
        obtain ⟨b, o, rfl, hb, x0, x1, x2⟩ := hr.col hz
        by_cases hkd : kd = 1 ∨ kd = 2
        · have HA2 : Hid (∀ c ∈ s.take (k + 1), c.1 = 1 ∨ c.1 = 2) := Lib.hid (by
            rw [take_snoc hz]
            intro c hc
            rcases List.mem_append.1 hc with hc | hc
            · exact HA.out c hc
            · rw [List.mem_singleton] at hc; subst hc; exact hkd)
          clear hz
          rcases hkd with rfl | rfl
          · go_wp2_with fail
            go_round
            case rel => exact ⟨k + 1, by omega, by go_num, HA2⟩
            case measure => simp [intOf]; omega
          · go_wp2_with fail
            go_round
            case rel => exact ⟨k + 1, by omega, by go_num, HA2⟩
            case measure => simp [intOf]; omega
        · have HR : Hid (r = 11) := Lib.hid (Q3.out ⟨_, List.mem_of_getElem? hz, by omega, by omega⟩)
          have q1 : (kd != 1) = true := by simp; omega
          have q2 : (kd != 2) = true := by simp; omega
          clear hz hkd
          go_wp2_with fail
          go_ret
          exact ⟨by rw [HR.out]; rfl, by first | exact Drawn.refl w | exact Drawn.one w _ | exact (Drawn.one w _).more _⟩
      · obtain rfl : k = n := by omega
        have HQ := Lib.hid (Q4.out (by have := HA.out; rwa [List.take_of_length_le (by rw [HE.out]; exact Nat.le_refl _)] at this))
        have HK : Hid (∀ c ∈ s, c.1 = 1 ∨ c.1 = 2) := Lib.hid (by have := HA.out; rwa [List.take_of_length_le (by rw [HE.out]; exact Nat.le_refl _)] at this)
        go_wp2_with fail
        clear hk hlt HA
        go_loopw [4, 35] (fun _ i wr => ∃ j : Nat, j ≤ k ∧ i = .int .i64 (j : Int) ∧ Hid (∀ c ∈ s.take j, c.2.2 = -1 ∨ ofW c.2.2 c.1 = true) ∧ ∃ q, wr = w.drewN q) (fun _ i _ => k - (intOf i).toNat)
        case atStart => exact ⟨0, Nat.zero_le _, rfl, Lib.hid (by simp), 0, rfl⟩
        case round =>
          obtain ⟨j, hj, rfl, HJ, q0, rfl⟩ := hrel
          by_cases hlt : j < k
          · obtain ⟨⟨kd, nu, wy⟩, hz⟩ : ∃ v, s[j]? = some v := ⟨_, List.getElem?_eq_getElem (by rw [HE.out]; omega)⟩
            obtain ⟨b, o, rfl, hb, x0, x1, x2⟩ := hr.col hz
            have hkd : kd = 1 ∨ kd = 2 := HK.out _ (List.mem_of_getElem? hz)
            have step : (wy = -1 ∨ ofW wy kd = true) → Hid (∀ c ∈ s.take (j + 1), c.2.2 = -1 ∨ ofW c.2.2 c.1 = true) := fun hh => Lib.hid (by
              rw [take_snoc hz]
              intro c hc
              rcases List.mem_append.1 hc with hc | hc
              · exact HJ.out c hc
              · rw [List.mem_singleton] at hc; subst hc; exact hh)
            have stop : wy ≠ -1 → ofW wy kd = false → r = 1 := fun h1 h2 => HQ.out.1 ⟨_, List.mem_of_getElem? hz, h1, h2⟩
            have HC := Lib.hid fun W => isWay_any wy kd hkd W
            obtain ⟨g, hg⟩ : ∃ g, wayB wy kd = g := ⟨_, rfl⟩
            rw [hg] at HC
            clear hz
            cases g with
            | true =>
              have HS := step (by unfold wayB at hg; rw [Bool.or_eq_true] at hg; rcases hg with h | h; exact .inl (of_decide_eq_true h); exact .inr h)
              clear step stop hg hkd
              go_wp2_with fail
              go_quiet ((go_at_call 43; first | exact quiet_same (HC.out _) | exact quiet_same0 (HC.out _)))
              go_wp2_with fail
              exact ⟨⟨j + 1, by omega, by go_num, HS, _, rfl⟩, by simp [intOf]; omega⟩
            | false =>
              have HR := Lib.hid (stop (by unfold wayB at hg; rw [Bool.or_eq_false_iff] at hg; exact of_decide_eq_false hg.1) (by unfold wayB at hg; rw [Bool.or_eq_false_iff] at hg; exact hg.2))
              clear step stop hg hkd
              go_wp2_with fail
              go_quiet ((go_at_call 43; first | exact quiet_same (HC.out _) | exact quiet_same0 (HC.out _)))
              go_wp2_with fail
              go_ret
              exact ⟨by rw [HR.out]; rfl, by first | exact Drawn.refl w | exact Drawn.one w _ | exact (Drawn.one w _).more _⟩
          · obtain rfl : j = k := by omega
            have HR := Lib.hid (HQ.out.2 (by have := HJ.out; rwa [List.take_of_length_le (by rw [HE.out]; exact Nat.le_refl _)] at this))
            go_wp2_with fail
            go_ret
            exact ⟨by rw [HR.out]; rfl, by first | exact Drawn.refl w | exact Drawn.one w _ | exact (Drawn.one w _).more _⟩
theorem schemaC_any : SchemaC := fun A n c s w hr hn => (schemaV_any A n c s w hr (by omega)).mono fun e w' ⟨h1, h2⟩ => ⟨h1, h2.below (Below.refl _ _)⟩
end Go.Proofs.YtieknhhhcjdbnaaDoor

/- Rows of the call's own while other blocks change. No program. -/
namespace Go.Proofs.YtieknhhhcjdbnaaDoor
open Go.RowKit
set_option linter.unusedVariables false
set_option linter.unusedSimpArgs false
set_option maxRecDepth 100000

theorem own_kept {w w' : World} {base : Nat} {e : TypeId} {size n : Nat} {v : Value} {xs : List Value} {row : Option Nat} (h : w.ownsRow base e size v n xs) (hg : w.grownBy w' row)
    (hr : ∀ r, row = some r → ∃ o : Obj, w.heap[r]? = some o ∧ o.isCells = false) : w'.ownsRow base e size v n xs := by
  refine ⟨h.1, ?_⟩
  rcases h.2 with hn | ⟨g, cap, cur, rfl, h1, hgc, rest⟩
  · exact .inl hn
  · refine .inr ⟨g, cap, cur, rfl, h1, (hg.block g (Array.getElem?_eq_some_iff.1 hgc).1 (fun e => ?_)).trans hgc, rest⟩
    obtain ⟨o, ho, hc⟩ := hr g e.symm
    rw [hgc] at ho
    injection ho with ho
    subst ho
    cases hc
theorem own_before {w w' : World} {base : Nat} {e : TypeId} {size n : Nat} {v : Value} {xs : List Value} {row : Option Nat} (h : w.ownsRow base e size v n xs) (hg : w.grownBy w' row)
    (hr : ∀ r, row = some r → r < base) : w'.ownsRow base e size v n xs := by
  refine ⟨h.1, ?_⟩
  rcases h.2 with hn | ⟨g, cap, cur, rfl, h1, hgc, rest⟩
  · exact .inl hn
  · exact .inr ⟨g, cap, cur, rfl, h1, (hg.block g (Array.getElem?_eq_some_iff.1 hgc).1 (fun e => by have := hr g e.symm; omega)).trans hgc, rest⟩
theorem own_cells {w : World} {base : Nat} {e : TypeId} {size n : Nat} {v : Value} {xs : List Value} (h : w.ownsRow base e size v n xs) {g : Nat} (hg : v.ownBlock = some g) : base ≤ g ∧ ∀ o : Obj, w.heap[g]? = some o → o.isCells = true := by
  refine ⟨(h.lt g hg).1, fun o ho => ?_⟩
  rcases h.2 with ⟨rfl, _⟩ | ⟨g', cap, cur, rfl, h1, hgc, rest⟩
  · cases hg
  · have : g' = g := by simpa [Value.ownBlock] using hg
    subst this
    rw [hgc] at ho
    injection ho with ho
    subst ho
    rfl
end Go.Proofs.YtieknhhhcjdbnaaDoor
