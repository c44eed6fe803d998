/- Texts joined: CkRefOf Opened Yields VlRefRow. -/
import Derived.Test.YtieknhhhcjdbnaaDoorJ21
import Derived.Test.YtieknhhhcjdbnaaDoorJ12
import Derived.Test.YtieknhhhcjdbnaaDoorJ2
import Derived.Deep.RegionWith
import Derived.BigGuard
import Derived.Lib.QuietBelow
import Derived.Deep.QuietTactic
import Derived.BigQuiet
import Derived.Test.YtieknhhhcjdbnaaDoorJ22
import Derived.Test.YtieknhhhcjdbnaaDoorJ18
/- Contracts of the document's side of a chunk: is a way one of a kind; may a value stand in a column. Nothing that was there changes. -/
namespace Go.Proofs.YtieknhhhcjdbnaaDoor
open Go.RowKit
set_option linter.unusedVariables false
set_option linter.unusedSimpArgs false
set_option maxRecDepth 100000

theorem refOf_any (way kd : Int) (w : World) : Calls Tryd.prog 60 #[.int .i64 way, .int .i64 kd] w fun e w' => e = .returned (.bool (ofW way kd)) ∧ w = w' := by
  obtain ⟨r, hr⟩ : ∃ r, ofW way kd = r := ⟨_, rfl⟩
  rw [hr]
  unfold ofW at hr
  go_enter Tryd.func60, Tryd.ntmps60
  by_cases h1 : kd = 1
  · subst h1
    by_cases h2 : 0 ≤ way
    · by_cases h3 : way ≤ 4
      · obtain rfl : r = true := by rw [← hr]; simp; omega
        clear hr
        go_wp2_with fail
        go_ret
        exact ⟨rfl, rfl⟩
      · obtain rfl : r = false := by rw [← hr]; simp; omega
        clear hr
        go_wp2_with fail
        go_ret
        exact ⟨rfl, rfl⟩
    · obtain rfl : r = false := by rw [← hr]; simp; omega
      clear hr
      go_wp2_with fail
      go_ret
      exact ⟨rfl, rfl⟩
  · by_cases h2 : kd = 2
    · subst h2
      by_cases h3 : way = 5
      · subst h3
        obtain rfl : r = true := by rw [← hr]; simp
        clear hr
        go_wp2_with fail
        go_ret
        exact ⟨rfl, rfl⟩
      · have q : (way == 5) = false := by simp [h3]
        obtain rfl : r = false := by rw [← hr]; simp; omega
        clear hr
        go_wp2_with fail
        go_ret
        exact ⟨rfl, rfl⟩
    · obtain rfl : r = false := by rw [← hr]; simp; omega
      clear hr
      go_wp2_with fail
      go_ret
      exact ⟨rfl, rfl⟩
/-- A value handed over. -/
def vA (v : Int × Int × Tx) : Value := .agg (vc v).toArray
theorem refRight_any (v : Int × Int × Tx) (kd : Int) (w : World) : Calls Tryd.prog 61 #[vA v, .int .i64 kd] w fun e w' => e = .returned (.bool (rgt kd v)) ∧ Below w.heap.size w w' := by
  obtain ⟨r, hr⟩ : ∃ r, rgt kd v = r := ⟨_, rfl⟩
  obtain ⟨v0, v1, z⟩ := v
  rw [hr]
  unfold rgt at hr
  have hv : vA (v0, v1, z) = .agg #[.int .i64 v0, .int .i64 v1, .string ⟨z.toArray⟩] := rfl
  rw [hv]
  clear hv
  go_enter Tryd.func61, Tryd.ntmps61
  have hB : Below w.heap.size w (w.alloc (.cells #[.int .i64 v0, .int .i64 v1, .string ⟨z.toArray⟩] 31)) := (Below.refl _ _).alloc (Nat.le_refl _) _
  have qz : z = [] ∧ z.isEmpty = true ∨ z ≠ [] ∧ z.isEmpty = false := by cases z <;> simp
  by_cases h0 : v0 = 0
  · subst h0
    by_cases h1 : v1 = 0
    · subst h1
      rcases qz with ⟨hz, q⟩ | ⟨hz, q⟩
      · obtain rfl : r = true := by rw [← hr]; simp [hz]
        clear hr hz
        go_wp2_with fail
        go_ret
        exact ⟨rfl, hB⟩
      · obtain rfl : r = false := by rw [← hr]; simp [hz]
        clear hr hz
        go_wp2_with fail
        go_ret
        exact ⟨rfl, hB⟩
    · obtain rfl : r = false := by rw [← hr]; simp [h1]
      clear hr qz
      go_wp2_with fail
      go_ret
      exact ⟨rfl, hB⟩
  · by_cases hk : v0 = kd
    · subst hk
      by_cases h1 : v0 = 1
      · subst h1
        rcases qz with ⟨hz, q⟩ | ⟨hz, q⟩
        · obtain rfl : r = true := by rw [← hr]; simp [hz]
          clear hr hz
          go_wp2_with fail
          go_ret
          exact ⟨rfl, hB⟩
        · obtain rfl : r = false := by rw [← hr]; simp [hz]
          clear hr hz
          go_wp2_with fail
          go_ret
          exact ⟨rfl, hB⟩
      · by_cases h2 : v0 = 2
        · subst h2
          by_cases h3 : v1 = 0
          · subst h3
            obtain rfl : r = true := by rw [← hr]; simp
            clear hr qz
            go_wp2_with fail
            go_ret
            exact ⟨rfl, hB⟩
          · have q : (v1 == 0) = false := by simp [h3]
            obtain rfl : r = false := by rw [← hr]; simp [h3]
            clear hr qz
            go_wp2_with fail
            go_ret
            exact ⟨rfl, hB⟩
        · obtain rfl : r = false := by rw [← hr]; simp [h0, h1, h2]
          clear hr qz
          go_wp2_with fail
          go_ret
          exact ⟨rfl, hB⟩
    · obtain rfl : r = false := by rw [← hr]; simp [h0, hk]
      clear hr qz
      go_wp2_with fail
      go_ret
      exact ⟨rfl, hB⟩
end Go.Proofs.YtieknhhhcjdbnaaDoor

/- What a function answers that hands out new bytes, opened; what reads goes on reading. -/
namespace Go.Proofs.YtieknhhhcjdbnaaDoor
open Go.RowKit
set_option linter.unusedVariables false
set_option linter.unusedSimpArgs false
set_option maxRecDepth 100000

theorem New.opened {w w' : World} {xs : List Value} {n : Nat} {e : Ending} (h : New w xs n e w') : ∃ A c, e = .returned (.slice A n c) ∧ n ≤ c ∧ Reads w' w'.heap.size 1 A n xs ∧ Below w.heap.size w w' := by
  obtain ⟨v, rfl, hown, hb⟩ := h
  obtain ⟨A, c, rfl, hc, _, hr⟩ := own_slice hown
  exact ⟨A, c, rfl, hc, hr, hb⟩
theorem Reads.next {w w' : World} {size n : Nat} {A : Option Addr} {xs : List Value} (h : Reads w w.heap.size size A n xs) (hb : Below w.heap.size w w') : Reads w' w'.heap.size size A n xs :=
  (h.below hb).more hb.size
end Go.Proofs.YtieknhhhcjdbnaaDoor

/- What a call answers wherever what stood below stands: for a drawn region with calls that make memory, in one walk. No condition. -/
namespace Go.Proofs.YtieknhhhcjdbnaaDoor
open Go.RowKit
set_option linter.unusedVariables false
set_option linter.unusedSimpArgs false
set_option maxRecDepth 100000

/-- What a call answers wherever what stood below stands, and that it leaves that. -/
def Yields (B : Nat) (w : World) (f : FuncId) (args : Array Value) (v : Value) : Prop :=
  ∀ W, Below B w W → Calls Tryd.prog f args W fun e w' => e = .returned v ∧ Below B w w'
theorem below_drew {B : Nat} {w W : World} (h : Below B w W) : Below B w W.drew := ⟨h.os, h.tape, h.output, h.size, h.block⟩
theorem Yields.quiet {w : World} {f : FuncId} {args : Array Value} {v : Value} (h : Yields w.heap.size w f args v) (d : Nat) (os : Array Obj) :
    Calls Tryd.prog f args (Go.Sort.grow (redrawn w d) os) fun e w'' => e = .returned v ∧ ∃ p : Regrown, w'' = Go.Sort.grow (redrawn w p.d) p.os :=
  (h _ (below_regrown w d os)).mono fun _ _ ⟨he, hb⟩ => ⟨he, regrown_of_below hb⟩
end Go.Proofs.YtieknhhhcjdbnaaDoor

/- Contract of the document's Row: what is wrong with a row of a schema. Nothing that was there changes. -/
namespace Go.Proofs.YtieknhhhcjdbnaaDoor
open Go.RowKit
set_option linter.unusedVariables false
set_option linter.unusedSimpArgs false
set_option maxRecDepth 100000

theorem drop_at {α : Type} {l : List α} {k : Nat} {x : α} (h : l[k]? = some x) : l.drop k = x :: l.drop (k + 1) := by
  have hk : k < l.length := (List.getElem?_eq_some_iff.1 h).1
  rw [List.drop_eq_getElem_cons hk, (List.getElem?_eq_some_iff.1 h).2]
theorem colsE_step {s : List Cl} {r : List Vl} {k : Nat} {c : Cl} {v : Vl} (hc : s[k]? = some c) (hv : r[k]? = some v) : colsE (s.drop k) (r.drop k) = if colE c v ≠ 0 then colE c v else colsE (s.drop (k + 1)) (r.drop (k + 1)) := by
  rw [drop_at hc, drop_at hv, colsE]
theorem colE_11 {c : Cl} {v : Vl} (h : rgt c.1 v = false ∨ v.1 = 0 ∧ c.2.1 = false) : colE c v = 11 := by unfold colE; rw [if_pos h]
theorem colE_12 {c : Cl} {v : Vl} (h : ¬ (rgt c.1 v = false ∨ v.1 = 0 ∧ c.2.1 = false)) (h2 : 65536 < v.2.2.length) : colE c v = 12 := by unfold colE; rw [if_neg h, if_pos h2]
theorem colE_0 {c : Cl} {v : Vl} (h : ¬ (rgt c.1 v = false ∨ v.1 = 0 ∧ c.2.1 = false)) (h2 : ¬ 65536 < v.2.2.length) : colE c v = 0 := by unfold colE; rw [if_neg h, if_neg h2]
set_option maxHeartbeats 2000000 in
theorem refRow_any (A A' : Option Addr) (n c n' c' : Nat) (s : List Cl) (row : List Vl) (w : World) (hs : Reads w w.heap.size 3 A n (cls s)) (hr : Reads w w.heap.size 3 A' n' (vs row)) (hn : n ≤ 140737488355328) (hn' : n' ≤ 140737488355328) :
    Calls Tryd.prog 41 #[.slice A n c, .slice A' n' c'] w fun e w' => e = .returned (.int .i64 (rwE s row)) ∧ Below w.heap.size w w' := by
  have e1 : s.length = n := by have := hs.1; rw [cls_length] at this; omega
  have e2 : row.length = n' := by have := hr.1; rw [vs_length] at this; omega
  obtain ⟨R, hR⟩ : ∃ R, rwE s row = R := ⟨_, rfl⟩
  rw [hR]
  unfold rwE at hR
  by_cases hne : n' = n
  · subst hne
    rw [if_neg (by omega)] at hR
    have HQ0 : Hid (colsE (s.drop 0) (row.drop 0) = R) := Lib.hid (by simpa using hR)
    have HE1 := Lib.hid e1; have HE2 := Lib.hid e2
    clear e1 e2 hR
    go_enter Tryd.func41, Tryd.ntmps41
    go_wp2_with fail
    go_loopw [5] (fun i wr => ∃ k : Nat, k ≤ n' ∧ i = .int .i64 (k : Int) ∧ Hid (colsE (s.drop k) (row.drop k) = R) ∧ Below w.heap.size w wr) (fun i _ => n' - (intOf i).toNat)
    case atStart => exact ⟨0, Nat.zero_le _, rfl, HQ0, Below.refl _ _⟩
    case round =>
      clear HQ0
      obtain ⟨k, hk, rfl, HQ, hb⟩ := hrel
      by_cases hlt : k < n'
      · obtain ⟨⟨kd, nu, wy⟩, hc⟩ : ∃ v, s[k]? = some v := ⟨_, List.getElem?_eq_getElem (by rw [HE1.out]; omega)⟩
        obtain ⟨⟨v0, v1, z⟩, hv⟩ : ∃ v, row[k]? = some v := ⟨_, List.getElem?_eq_getElem (by rw [HE2.out]; omega)⟩
        obtain ⟨b, o, rfl, hb0, y0, y1, y2⟩ := (hs.below hb).col hc
        obtain ⟨b', o', rfl, hb0', x0, x1, x2⟩ := (hr.below hb).val hv
        have k0 := cell_regrown x0; have k1 := cell_regrown x1; have k2 := cell_regrown x2
        have j0 := cell_regrown y0; have j1 := cell_regrown y1
        have hstep := HQ.out
        rw [colsE_step hc hv] at hstep
        have hzs : (⟨z.toArray⟩ : ByteArray).size = z.length := by simp [ByteArray.size]
        have hy : Yields wr.heap.size wr 61 #[vA (v0, v1, z), .int .i64 kd] (.bool (rgt kd (v0, v1, z))) := fun V hbV => (refRight_any (v0, v1, z) kd V).mono fun e w' ⟨he, hb'⟩ => ⟨he, hbV.trans (hb'.mono hbV.size)⟩
        rw [show vA (v0, v1, z) = .agg #[.int .i64 v0, .int .i64 v1, .string ⟨z.toArray⟩] from rfl] at hy
        obtain ⟨g, hg⟩ : ∃ g, rgt kd (v0, v1, z) = g := ⟨_, rfl⟩
        rw [hg] at hy
        have c11 := colE_11 (c := (kd, nu, wy)) (v := (v0, v1, z))
        have c12 := colE_12 (c := (kd, nu, wy)) (v := (v0, v1, z))
        have c00 := colE_0 (c := (kd, nu, wy)) (v := (v0, v1, z))
        simp only [hg] at c11 c12 c00
        obtain ⟨X, hX⟩ : ∃ X, colE (kd, nu, wy) (v0, v1, z) = X := ⟨_, rfl⟩
        rw [hX] at hstep c11 c12 c00
        have HY := Lib.hid hy
        clear hc hv hg hy HQ y2 hX
        cases g with
        | false =>
          have HR : Hid (R = 11) := Lib.hid (by rw [← hstep, c11 (.inl rfl), if_pos (by decide)])
          clear hstep c11 c12 c00
          go_wp2_with fail
          refine wp_region_quiet_below (by kernel_rfl) (by kernel_rfl) ?_
          repeat (go_big_quiet_step (first | (go_at_call 61; exact HY.out.quiet _ _)))
          refine wpQuiet_nil ?_
          intro _ hw'
          obtain ⟨p, hw''⟩ := hw'
          subst hw''
          have hbp := hb.trans ((below_regrown wr p.d p.os).mono hb.size)
          have cz := k2 p.d p.os
          go_wp2_with fail
          go_ret
          exact ⟨by rw [HR.out]; rfl, hbp⟩
        | true =>
          by_cases hv0 : v0 = 0
          · subst hv0
            cases nu with
            | false =>
              have HR : Hid (R = 11) := Lib.hid (by rw [← hstep, c11 (.inr ⟨rfl, rfl⟩), if_pos (by decide)])
              clear hstep c11 c12 c00
              go_wp2_with fail
              refine wp_region_quiet_below (by kernel_rfl) (by kernel_rfl) ?_
              repeat (go_big_quiet_step (first | (go_at_call 61; exact HY.out.quiet _ _)))
              refine wpQuiet_nil ?_
              intro _ hw'
              obtain ⟨p, hw''⟩ := hw'
              subst hw''
              have hbp := hb.trans ((below_regrown wr p.d p.os).mono hb.size)
              have cz := k2 p.d p.os
              go_wp2_with fail
              go_ret
              exact ⟨by rw [HR.out]; rfl, hbp⟩
            | true =>
              have h12 : 65536 < z.length → R = 12 := fun h => by rw [← hstep, c12 (by simp) h, if_pos (by decide)]
              have h0 : ¬ 65536 < z.length → colsE (s.drop (k + 1)) (row.drop (k + 1)) = R := fun h => by rw [← hstep, c00 (by simp) h, if_neg (by decide)]
              clear hstep c11 c12 c00
              by_cases hzl : 65536 < z.length
              · have HR := Lib.hid (h12 hzl)
                have d1 : decide ((65536 : Int) < (z.length : Int)) = true := by simp; omega
                clear h12 h0 hzl
                go_wp2_with fail
                refine wp_region_quiet_below (by kernel_rfl) (by kernel_rfl) ?_
                repeat (go_big_quiet_step (first | (go_at_call 61; exact HY.out.quiet _ _)))
                refine wpQuiet_nil ?_
                intro _ hw'
                obtain ⟨p, hw''⟩ := hw'
                subst hw''
                have hbp := hb.trans ((below_regrown wr p.d p.os).mono hb.size)
                have cz := k2 p.d p.os
                go_wp2_with fail
                go_ret
                exact ⟨by rw [HR.out]; rfl, hbp⟩
              · have HN := Lib.hid (h0 hzl)
                have d1 : decide ((65536 : Int) < (z.length : Int)) = false := by simp; omega
                clear h12 h0 hzl
                go_wp2_with fail
                refine wp_region_quiet_below (by kernel_rfl) (by kernel_rfl) ?_
                repeat (go_big_quiet_step (first | (go_at_call 61; exact HY.out.quiet _ _)))
                refine wpQuiet_nil ?_
                intro _ hw'
                obtain ⟨p, hw''⟩ := hw'
                subst hw''
                have hbp := hb.trans ((below_regrown wr p.d p.os).mono hb.size)
                have cz := k2 p.d p.os
                go_wp2_with fail
                go_round
                case rel => exact ⟨k + 1, by omega, by go_num, HN, hbp⟩
                case measure => simp [intOf]; omega
          · have q : (v0 == 0) = false := by simp [hv0]
            have h12 : 65536 < z.length → R = 12 := fun h => by rw [← hstep, c12 (by simp [hv0]) h, if_pos (by decide)]
            have h0 : ¬ 65536 < z.length → colsE (s.drop (k + 1)) (row.drop (k + 1)) = R := fun h => by rw [← hstep, c00 (by simp [hv0]) h, if_neg (by decide)]
            clear hstep hv0 c11 c12 c00
            by_cases hzl : 65536 < z.length
            · have HR := Lib.hid (h12 hzl)
              have d1 : decide ((65536 : Int) < (z.length : Int)) = true := by simp; omega
              clear h12 h0 hzl
              go_wp2_with fail
              refine wp_region_quiet_below (by kernel_rfl) (by kernel_rfl) ?_
              repeat (go_big_quiet_step (first | (go_at_call 61; exact HY.out.quiet _ _)))
              refine wpQuiet_nil ?_
              intro _ hw'
              obtain ⟨p, hw''⟩ := hw'
              subst hw''
              have hbp := hb.trans ((below_regrown wr p.d p.os).mono hb.size)
              have cz := k2 p.d p.os
              go_wp2_with fail
              go_ret
              exact ⟨by rw [HR.out]; rfl, hbp⟩
            · have HN := Lib.hid (h0 hzl)
              have d1 : decide ((65536 : Int) < (z.length : Int)) = false := by simp; omega
              clear h12 h0 hzl
              go_wp2_with fail
              refine wp_region_quiet_below (by kernel_rfl) (by kernel_rfl) ?_
              repeat (go_big_quiet_step (first | (go_at_call 61; exact HY.out.quiet _ _)))
              refine wpQuiet_nil ?_
              intro _ hw'
              obtain ⟨p, hw''⟩ := hw'
              subst hw''
              have hbp := hb.trans ((below_regrown wr p.d p.os).mono hb.size)
              have cz := k2 p.d p.os
              go_wp2_with fail
              go_round
              case rel => exact ⟨k + 1, by omega, by go_num, HN, hbp⟩
              case measure => simp [intOf]; omega
      · obtain rfl : k = n' := by omega
        have HR : Hid (R = 0) := Lib.hid (by
          have h1 : s.drop k = [] := List.drop_eq_nil_of_le (by rw [HE1.out]; exact Nat.le_refl _)
          have := HQ.out
          rw [h1] at this
          rw [← this]; rfl)
        clear HQ
        go_wp2_with fail
        go_ret
        exact ⟨by rw [HR.out]; rfl, hb⟩
  · rw [if_pos (by omega)] at hR
    subst hR
    have q : ((n' : Int) != (n : Int)) = true := by simp; omega
    clear e1 e2 hne
    go_enter Tryd.func41, Tryd.ntmps41
    go_wp2_with fail
    go_ret
    exact ⟨rfl, Below.refl _ _⟩
end Go.Proofs.YtieknhhhcjdbnaaDoor
