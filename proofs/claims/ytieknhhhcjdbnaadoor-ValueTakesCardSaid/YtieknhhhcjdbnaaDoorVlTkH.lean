/- Contract of the document's TakeRows: the rows that stand there, in new memory, and the reader behind them. -/
import Derived.Test.YtieknhhhcjdbnaaDoorVlTkG
import Derived.Test.YtieknhhhcjdbnaaDoorJ24
import Derived.Test.YtieknhhhcjdbnaaDoorJ28
namespace Go.Proofs.YtieknhhhcjdbnaaDoor
open Go.RowKit
set_option linter.unusedVariables false
set_option linter.unusedSimpArgs false
set_option maxRecDepth 100000

/-- Rows in new memory, off the reader's block, and the document's reader behind them. -/
def TookFR (w : World) (g : Nat) (b : List Nat) (r : List (List Vl) × Nat × Option (Int × Nat)) (e : Ending) (w' : World) : Prop :=
  ∃ v us, e = .returned v ∧ w'.ownsRow w.heap.size 47 1 v r.1.length us ∧ AllOff w' v.ownBlock (fun q => q < w.heap.size) us r.1 ∧ RfTo w g b r.2.1 r.2.2 w'
set_option maxHeartbeats 4000000 in
theorem refTakeR_any {w : World} {g : Nat} {b : List Nat} {at_ : Nat} {x : Option (Int × Nat)} (A : Option Addr) (n c : Nat) (s : List Cl) (hS : RfS w g b at_ x) (hs : Reads w w.heap.size 3 A n (cls s)) (hap : Apart A g) (hn : n ≤ 65536) :
    Calls Tryd.prog 15 #[.pointer (some ⟨g, 0, none⟩), .slice A n c] w (TookFR w g b (tkR b s at_ x)) := by
  obtain ⟨i0, hi0, hz0, hz1, hz2⟩ := info_parts info_vals
  obtain ⟨i1, hi1, hy0, hy1, hy2⟩ := info_parts info_val
  have hgw := hS.lt
  have hby := hS.byte
  have hsl : s.length = n := by have := hs.1; rw [cls_length] at this; omega
  have HS := Lib.hid fun (W : World) (h : w.grownBy W (some g)) => hs.off h hap
  have hvr := rvar_is hS
  have hul := varS_lt b hby at_ x
  have hT : tkR b s at_ x = (if (if 65536 < (varS b at_ x).1 then failS (varS b at_ x).2.1 (varS b at_ x).2.2 12 else (varS b at_ x).2.2) = none then
      (if (rsS b s (varS b at_ x).2.1 (if 65536 < (varS b at_ x).1 then failS (varS b at_ x).2.1 (varS b at_ x).2.2 12 else (varS b at_ x).2.2) (varS b at_ x).1).2.2 = none then (rsS b s (varS b at_ x).2.1 (if 65536 < (varS b at_ x).1 then failS (varS b at_ x).2.1 (varS b at_ x).2.2 12 else (varS b at_ x).2.2) (varS b at_ x).1).1 else [],
        (rsS b s (varS b at_ x).2.1 (if 65536 < (varS b at_ x).1 then failS (varS b at_ x).2.1 (varS b at_ x).2.2 12 else (varS b at_ x).2.2) (varS b at_ x).1).2.1, (rsS b s (varS b at_ x).2.1 (if 65536 < (varS b at_ x).1 then failS (varS b at_ x).2.1 (varS b at_ x).2.2 12 else (varS b at_ x).2.2) (varS b at_ x).1).2.2)
    else ([], (varS b at_ x).2.1, (if 65536 < (varS b at_ x).1 then failS (varS b at_ x).2.1 (varS b at_ x).2.2 12 else (varS b at_ x).2.2))) := rfl
  have hv0 : ∀ y, (varS b at_ x).2.2 = some y → (varS b at_ x).1 = 0 := by
    intro y hy
    cases x with
    | some z => rfl
    | none =>
      unfold varS at hy ⊢
      simp only at hy ⊢
      split
      · rename_i h1; rw [if_pos h1] at hy; cases hy
      · rfl
  obtain ⟨⟨u, a0, x0⟩, hF⟩ : ∃ y, varS b at_ x = y := ⟨_, rfl⟩
  rw [hF] at hvr hul hT hv0
  simp only at hvr hul hT hv0
  have HVR := Lib.hid hvr
  clear hvr hS hF hby
  by_cases hbig : 65536 < u
  · rw [if_pos hbig] at hT
    have hx0n : x0 = none := by
      cases x0 with
      | none => rfl
      | some y => have := hv0 y rfl; omega
    subst hx0n
    rw [show failS a0 none 12 = some ((12 : Int), a0) from rfl, if_neg (by simp)] at hT
    rw [hT]
    have HFL := Lib.hid fun (W : World) (h : RfS W g b a0 none) => rfail_is 12 h
    have d1 : decide ((65536 : Int) < (u : Int)) = true := by simp; omega
    obtain ⟨uw, huw⟩ : ∃ q, IntKind.i64.wrap (u : Int) = q := ⟨_, rfl⟩
    clear hT hv0 hs hbig
    go_enter Tryd.func15, Tryd.ntmps15
    go_wp2_with fail
    refine HVR.out.mono ?_
    rintro e w1 ⟨rfl, hS1, hG1⟩
    go_wp2_with fail
    refine (HFL.out _ hS1).mono ?_
    rintro e w2 ⟨rfl, hS2, hG2⟩
    have hS2' : RfS w2 g b a0 (some (12, a0)) := hS2
    have hcE : w2.cell? ⟨g, 2, none⟩ = some (.int .i64 12) := hS2'.cellE
    have hG02 := only_trans hG1 hG2
    clear hS1 hG1 hS2 hG2 HVR HFL
    by_cases hlt : (0 : Int) < uw
    case' pos => have d2 : decide ((0 : Int) < uw) = true := by simp [hlt]
    case' neg => have d2 : decide ((0 : Int) < uw) = false := by simp [hlt]
    all_goals
      go_wp2_with fail
      go_loopw [6, 7, 8, 9] (fun v i _ _ wr => v = .slice none 0 0 ∧ i = .int .i64 ((0 : Nat) : Int) ∧ wr = w2) (fun _ _ _ _ _ => 0)
      case atStart => exact ⟨rfl, rfl, rfl⟩
      case round =>
        obtain ⟨rfl, rfl, hwr⟩ := hrel
        subst hwr
        go_wp2_with fail
        go_ret
        exact ⟨_, [], rfl, own_nil _ _ _ _, AllOff.nil _ _ _, hS2', hG02⟩
  · rw [if_neg hbig] at hT
    have hu : u ≤ 65536 := by omega
    have d1 : decide ((65536 : Int) < (u : Int)) = false := by simp; omega
    have huw : IntKind.i64.wrap (u : Int) = (u : Int) := IntWalk.i64_in _ (by omega)
    have HNX : Hid (∀ k, rsS b s a0 x0 (k + 1) = ((rsS b s a0 x0 k).1 ++ [(vsS b (rsS b s a0 x0 k).2.1 (rsS b s a0 x0 k).2.2 n).1], (vsS b (rsS b s a0 x0 k).2.1 (rsS b s a0 x0 k).2.2 n).2.1, failS (vsS b (rsS b s a0 x0 k).2.1 (rsS b s a0 x0 k).2.2 n).2.1 (vsS b (rsS b s a0 x0 k).2.1 (rsS b s a0 x0 k).2.2 n).2.2 (rwE s (vsS b (rsS b s a0 x0 k).2.1 (rsS b s a0 x0 k).2.2 n).1))) := Lib.hid fun k => by subst hsl; rfl
    have HZ : Hid (rsS b s a0 x0 0 = ([], a0, x0)) := Lib.hid rfl
    have HLN := Lib.hid (rsS_length b s a0 x0)
    have HSTOP : Hid (∀ k y, (rsS b s a0 x0 k).2.2 = some y → ∀ j, (rsS b s a0 x0 (k + j)).2 = ((rsS b s a0 x0 k).2.1, some y)) := Lib.hid fun k y h j => rsS_stop h j
    have HER : Hid (x0 = none ∨ u = 0) := Lib.hid (by
      cases x0 with
      | none => exact .inl rfl
      | some y => exact .inr (hv0 y rfl))
    have HE : Hid (∀ k y, k ≤ u → (rsS b s a0 x0 k).2.2 = some y → tkR b s at_ x = ([], (rsS b s a0 x0 k).2.1, some y)) := Lib.hid (by
      intro k y hk hy
      rcases HER.out with hn0 | h0
      · have hst := HSTOP.out k y hy (u - k)
        rw [show k + (u - k) = u by omega] at hst
        rw [hT, if_pos hn0, hst]
        simp
      · have hk0 : k = 0 := by omega
        subst hk0
        have hx' : x0 = some y := hy
        rw [hT, hx', if_neg (by simp)]
        rfl)
    have HT2 : Hid ((rsS b s a0 x0 u).2.2 = none → tkR b s at_ x = rsS b s a0 x0 u) := Lib.hid (by
      intro h0
      have hn0 : x0 = none := by
        cases hx : x0 with
        | none => rfl
        | some y =>
          have := HSTOP.out 0 y (by rw [HZ.out]; exact hx) u
          rw [Nat.zero_add] at this
          rw [this] at h0; cases h0
      rw [hT, if_pos hn0, h0, if_pos rfl]
      exact Prod.ext rfl (Prod.ext rfl h0.symm))
    obtain ⟨F, hFd⟩ : ∃ f : Nat → List (List Vl) × Nat × Option (Int × Nat), rsS b s a0 x0 = f := ⟨_, rfl⟩
    rw [hFd] at HNX HZ HLN HSTOP HT2 HE
    clear hT hv0 hsl hs hFd hbig
    go_enter Tryd.func15, Tryd.ntmps15
    go_wp2_with fail
    refine HVR.out.mono ?_
    rintro e w1 ⟨rfl, hS1, hG1⟩
    go_wp2_with fail
    go_loopw [6, 7, 8, 9] (fun v i _ _ wr => ∃ (k : Nat) (us : List Value), k ≤ u ∧ i = .int .i64 (k : Int) ∧ wr.ownsRow w.heap.size 47 1 v k us ∧ AllOff wr v.ownBlock (fun q => q < w.heap.size) us (F k).1 ∧ RfS wr g b (F k).2.1 (F k).2.2 ∧ w.grownBy wr (some g)) (fun _ i _ _ _ => u - (intOf i).toNat)
    case atStart => exact ⟨0, [], Nat.zero_le _, rfl, own_nil _ _ _ _, by rw [HZ.out]; exact AllOff.nil _ _ _, by rw [HZ.out]; exact hS1, hG1⟩
    case round =>
      clear hS1 hG1 HVR
      obtain ⟨k, us, hk, rfl, hown, hoff, hS, hG⟩ := hrel
      have hul := hown.1
      have hlnk := HLN.out k
      have hEk := HE.out k
      have hnx := HNX.out k
      have hT2 : k = u → (F k).2.2 = none → tkR b s at_ x = F k := fun e h => by subst e; exact HT2.out h
      obtain ⟨⟨l, a1, x1⟩, hC⟩ : ∃ y, F k = y := ⟨_, rfl⟩
      rw [hC] at hoff hS hlnk hEk hnx hT2
      simp only at hoff hS hlnk hEk hnx hT2
      obtain ⟨A6, c6, rfl, _, _, _⟩ := own_slice hown
      have HEK := Lib.hid hEk; have HTK := Lib.hid hT2; have HLK := Lib.hid hlnk; have HUL := Lib.hid hul
      clear hC hEk hT2 hlnk hul
      cases x1 with
      | some y =>
        have hR := Lib.hid (HEK.out y hk rfl)
        have hy : y.1 ≠ 0 := hS.2 y rfl
        have hcE : wr.cell? ⟨g, 2, none⟩ = some (.int .i64 y.1) := hS.cellE
        have q1 : (y.1 == 0) = false := by simpa using hy
        have q2 : (y.1 != 0) = true := by simpa using hy
        clear hy
        by_cases hlt : k < u
        case' pos => skip
        case' neg => obtain rfl : k = u := by omega
        all_goals
          go_wp2_with fail
          go_ret
          rw [hR.out]
          exact ⟨_, [], rfl, own_nil _ _ _ _, AllOff.nil _ _ _, hS, hG⟩
      | none =>
        have hcE : wr.cell? ⟨g, 2, none⟩ = some (.int .i64 0) := hS.cellE
        by_cases hlt : k < u
        · have HVX : Hid (∀ j, vsS b a1 none (j + 1) = ((vsS b a1 none j).1 ++ [(tkV b (vsS b a1 none j).2.1 (vsS b a1 none j).2.2).1], (tkV b (vsS b a1 none j).2.1 (vsS b a1 none j).2.2).2)) := Lib.hid fun j => rfl
          have HVZ : Hid (vsS b a1 none 0 = ([], a1, none)) := Lib.hid rfl
          have HVL := Lib.hid (vsS_length b a1 none)
          obtain ⟨J, hJ⟩ : ∃ f : Nat → List Vl × Nat × Option (Int × Nat), vsS b a1 none = f := ⟨_, rfl⟩
          rw [hJ] at HVX HVZ HVL hnx
          have HNK := Lib.hid hnx
          obtain ⟨BI, hBI⟩ : ∃ B, wr.heap.size = B := ⟨_, rfl⟩
          have hgB : g < BI := by have := hG.size; omega
          have hwB : w.heap.size ≤ BI := by have := hG.size; omega
          have HBI := Lib.hid hBI
          have HG0 := Lib.hid hG; have HOF0 := Lib.hid hoff; have HOW0 := Lib.hid hown
          have HOB : Hid (∀ q, (Value.slice A6 k c6).ownBlock = some q → q < BI) := Lib.hid fun q hq => by have := (hown.lt q hq).2; omega
          clear hJ hnx hBI hG hoff hown
          go_wp2_with fail
          clear hcE
          go_loopw [8, 9] (fun v i wq => ∃ j : Nat, j ≤ n ∧ i = .int .i64 (j : Int) ∧ wq.ownsRow BI 31 3 v j (vs (J j).1) ∧ RfS wq g b (J j).2.1 (J j).2.2 ∧ wr.grownBy wq (some g)) (fun _ i _ => n - (intOf i).toNat)
          case atStart => exact ⟨0, Nat.zero_le _, rfl, by rw [HVZ.out]; exact own_nil _ _ _ _, by rw [HVZ.out]; exact hS, World.grownBy.refl _ _⟩
          case round =>
            clear hS
            obtain ⟨j, hj, rfl, hrow, hS, hG⟩ := hrel
            by_cases hlt2 : j < n
            · have htk := refTake_any hS
              have hvx := HVX.out j
              obtain ⟨⟨⟨v0, v1, z⟩, a2, x2⟩, hC2⟩ : ∃ y, tkV b (J j).2.1 (J j).2.2 = y := ⟨_, rfl⟩
              rw [hC2] at htk hvx
              have htk' := htk
              rw [show vW (v0, v1, z) = .agg #[.int .i64 v0, .int .i64 v1, .string ⟨z.toArray⟩] from rfl] at htk'
              have HTV := Lib.hid htk'; have HVN := Lib.hid hvx
              clear htk htk' hvx hC2 hS
              go_wp2_with fail
              refine HTV.out.mono ?_
              rintro e w2 ⟨rfl, hS2, hG2⟩
              have hrow2 := own_before hrow hG2 (fun r hr => by injection hr with hr; omega)
              have hG02 := only_trans hG hG2
              have hb2 := hG02.size
              rw [HBI.out] at hb2
              clear hrow hG hG2 HTV
              go_wp2_with (at_builtin
                           refine wpList_append_any _ rfl (.tmp 35) (.tmp 38) _ rfl BI 31 i1 _ 3 32 Tryd.underlying47 hi1 hy0 hy1 hy2 rfl (by omega) u8 j (vs (J j).1) rfl
                             (hrow2.alloc _) (w2.heap.size + 1) (some ⟨w2.heap.size, 0, none⟩) 1 1 (vc (v0, v1, z)) rfl (reads3 w2 _ _ _ _) (vc_cell _) (by unfold maxLen; omega) (by omega) (by simp; omega) ?_
                           intro v3 w3 hrow3 hg3 hat3)
              go_round
              case rel =>
                refine ⟨j + 1, by omega, by go_num, ?_, ?_, only_rowN hG02 (by rw [HBI.out]; exact Nat.le_refl _) hrow2 _ hg3⟩
                · rw [HVN.out]; simp only; rw [vs_append, vs_one]; exact hrow3
                · rw [HVN.out]; exact rf_app hS2 hrow2 hgB _ hg3
              case measure => simp [intOf]; omega
            · obtain rfl : j = n := by omega
              have hGw := only_trans HG0.out hG
              have hown5 := own_before HOW0.out hG (fun r hr => by injection hr with hr; omega)
              have hoff5 := HOF0.out.rd hG hgw
              have hnv := OffV.of_own (P := fun q => q < w.heap.size) hrow (HVL.out j) HOB.out (fun q hq => Nat.lt_of_lt_of_le hq hwB)
              have hvl := HVL.out j
              obtain ⟨A8, c8, rfl, _, _, hr8⟩ := own_slice hrow
              have hnk := HNK.out
              obtain ⟨⟨r, a2, x2⟩, hC2⟩ : ∃ y, J j = y := ⟨_, rfl⟩
              rw [hC2] at hnk hS hnv hvl hr8
              simp only at hnk hS hnv hvl hr8
              have HN := Lib.hid hnk
              have hfin : ∀ (w5 : World) (x3 : Option (Int × Nat)), w5.ownsRow w.heap.size 47 1 (.slice A6 k c6) k us → AllOff w5 (Value.slice A6 k c6).ownBlock (fun q => q < w.heap.size) us l → OffV w5 (Value.slice A6 k c6).ownBlock (fun q => q < w.heap.size) (.slice A8 j c8) r → RfS w5 g b a2 x3 → w.grownBy w5 (some g) → F (k + 1) = (l ++ [r], a2, x3) →
                  ∀ (v6 : Value) (w6 : World) (o : Obj), (w5.alloc o).grownBy w6 (Value.slice A6 k c6).ownBlock → (v6.ownBlock = (Value.slice A6 k c6).ownBlock ∨ v6.ownBlock = some (w5.alloc o).heap.size) →
                  AllOff w6 v6.ownBlock (fun q => q < w.heap.size) (us ++ [.slice A8 j c8]) (F (k + 1)).1 ∧ RfS w6 g b (F (k + 1)).2.1 (F (k + 1)).2.2 ∧ w.grownBy w6 (some g) := by
                intro w5 x3 h1 h2 h3 h4 h5 h6 v6 w6 o hg hat
                rw [h6]
                have hba : Below w5.heap.size w5 (w5.alloc o) := (Below.refl _ _).alloc (Nat.le_refl _) o
                exact ⟨((h2.next hba).grown hg hat).snoc (by rw [HLK.out]; have := HUL.out; omega) ((h3.next hba).grown hg hat), rf_app h4 h1 hgw _ hg, only_rowN h5 (Nat.le_refl _) h1 _ hg⟩
              have HFIN := Lib.hid hfin
              have hull : us.length = k := by have := HUL.out; omega
              clear hnk hC2 hfin hrow hG hvl
              cases x2 with
              | some y =>
                have hy : y.1 ≠ 0 := hS.2 y rfl
                have hcE : _ = some (Value.int .i64 y.1) := hS.cellE
                have q1 : (y.1 == 0) = false := by simpa using hy
                have HN2 : Hid (F (k + 1) = (l ++ [r], a2, some y)) := Lib.hid (by rw [HN.out]; rfl)
                have hsz := hGw.size
                have HW5 := Lib.hid (And.intro hown5 (And.intro hoff5 (And.intro hnv (And.intro hS hGw))))
                clear hy hown5 hoff5 hnv hS hGw hr8
                go_wp2_with (at_builtin
                             refine wpList_append_any _ rfl (.tmp 50) (.tmp 52) _ rfl w.heap.size 47 i0 _ 1 24 Tryd.underlying39 hi0 hz0 hz1 hz2 rfl (by omega) (.slice A6 k c6) k us rfl
                               (HW5.out.1.alloc _) (wr.heap.size + 1) (some ⟨wr.heap.size, 0, none⟩) 1 1 [.slice A8 j c8] rfl (Reads.new wr _ _) (by intro u hu; simp at hu; subst hu; rfl) (by unfold maxLen; omega) (by omega) (by simp; omega) ?_
                             intro v6 w6 hown6 hg6 hat6)
                obtain ⟨f1, f2, f3⟩ := HFIN.out _ _ HW5.out.1 HW5.out.2.1 HW5.out.2.2.1 HW5.out.2.2.2.1 HW5.out.2.2.2.2 HN2.out v6 w6 _ hg6 hat6
                clear HW5 HFIN hg6 hat6
                go_round
                case rel => exact ⟨k + 1, us ++ [.slice A8 j c8], by omega, by go_num, hown6, f1, f2, f3⟩
                case measure => simp [intOf]; omega
              | none =>
                have hcE : _ = some (Value.int .i64 0) := hS.cellE
                have hrv := refRow_any A (some ⟨0, 0, none⟩) j c j c8 s r
                have hrv2 := refRow_any A A8 j c j c8 s r _ (HS.out _ hGw) hr8 (by omega) (by omega)
                obtain ⟨E, hE⟩ : ∃ E, rwE s r = E := ⟨_, rfl⟩
                rw [hE] at hrv2
                have HN2 : Hid (F (k + 1) = (l ++ [r], a2, failS a2 none E)) := Lib.hid (by rw [HN.out, hE])
                have HRV := Lib.hid hrv2; have HFL := Lib.hid fun (W : World) (h : RfS W g b a2 none) => rfail_is E h
                clear hrv hrv2 hE hr8
                go_wp2_with fail
                refine HRV.out.mono ?_
                rintro e w3 ⟨rfl, hb3⟩
                have hown6 := own_below hown5 hb3
                have hoff6 := hoff5.next hb3
                have hnv6 := hnv.next hb3
                have hS6 := hS.next hb3
                have hG6 := only_below hGw hb3
                clear hown5 hoff5 hnv hS hGw hb3 HRV hcE
                go_wp2_with fail
                refine (HFL.out _ hS6).mono ?_
                rintro e w4 ⟨rfl, hS7, hG7⟩
                have hown7 := own_before hown6 hG7 (fun r hr => by injection hr with hr; omega)
                have hoff7 := hoff6.rd hG7 hgw
                have hnv7 := hnv6.rd hG7 hgw
                have hGw7 := only_trans hG6 hG7
                have hsz := hGw7.size
                have HW5 := Lib.hid (And.intro hown7 (And.intro hoff7 (And.intro hnv7 (And.intro hS7 hGw7))))
                clear hown6 hoff6 hnv6 hS6 hG6 hG7 hown7 hoff7 hnv7 hS7 hGw7 HFL
                go_wp2_with (at_builtin
                             refine wpList_append_any _ rfl (.tmp 50) (.tmp 52) _ rfl w.heap.size 47 i0 _ 1 24 Tryd.underlying39 hi0 hz0 hz1 hz2 rfl (by omega) (.slice A6 k c6) k us rfl
                               (HW5.out.1.alloc _) (w4.heap.size + 1) (some ⟨w4.heap.size, 0, none⟩) 1 1 [.slice A8 j c8] rfl (Reads.new w4 _ _) (by intro u hu; simp at hu; subst hu; rfl) (by unfold maxLen; omega) (by omega) (by simp; omega) ?_
                             intro v6 w6 hown6 hg6 hat6)
                obtain ⟨f1, f2, f3⟩ := HFIN.out _ _ HW5.out.1 HW5.out.2.1 HW5.out.2.2.1 HW5.out.2.2.2.1 HW5.out.2.2.2.2 HN2.out v6 w6 _ hg6 hat6
                clear HW5 HFIN hg6 hat6
                go_round
                case rel => exact ⟨k + 1, us ++ [.slice A8 j c8], by omega, by go_num, hown6, f1, f2, f3⟩
                case measure => simp [intOf]; omega
        · obtain rfl : k = u := by omega
          have HR := Lib.hid (HTK.out rfl rfl)
          go_wp2_with fail
          go_ret
          rw [HR.out]
          exact ⟨_, us, rfl, by simp only; rw [HLK.out]; exact hown, hoff, hS, hG⟩
end Go.Proofs.YtieknhhhcjdbnaaDoor
