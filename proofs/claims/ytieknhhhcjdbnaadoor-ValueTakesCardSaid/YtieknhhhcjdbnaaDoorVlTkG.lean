/- Contract of the document's TakeSchema: the schema that stands there, in new memory, and the reader behind it. -/
import Derived.Test.YtieknhhhcjdbnaaDoorVlTkF
import Derived.Test.YtieknhhhcjdbnaaDoorJ26
import Derived.Test.YtieknhhhcjdbnaaDoorJ27
namespace Go.Proofs.YtieknhhhcjdbnaaDoor
open Go.RowKit
set_option linter.unusedVariables false
set_option linter.unusedSimpArgs false
set_option maxRecDepth 100000

/-- While a column is taken: the reader, the columns so far, the column's own block. -/
structure FC (w W : World) (g C : Nat) (t : TypeId) (v : Value) (k : Nat) (xs : List Value) (cs : Array Value) (b : List Nat) (at_ : Nat) (x : Option (Int × Nat)) : Prop where
  rd : RfS W g b at_ x
  own : W.ownsRow w.heap.size t 3 v k xs
  blk : Blk W C t cs
  gr : w.grownBy W (some g)
  far : v.ownBlock = none ∨ v.ownBlock ≠ some C
  gC : g < C
  wC : w.heap.size ≤ C
theorem FC.take {w W W' : World} {g C : Nat} {t : TypeId} {v : Value} {k : Nat} {xs : List Value} {cs : Array Value} {b : List Nat} {at_ at' : Nat} {x x' : Option (Int × Nat)} (h : FC w W g C t v k xs cs b at_ x) (hgw : g < w.heap.size) (hto : RfTo W g b at' x' W') : FC w W' g C t v k xs cs b at' x' :=
  ⟨hto.1, own_before h.own hto.2 (fun r hr => by injection hr with hr; omega), h.blk.grown hto.2 (by have := h.gC; simp; omega), only_trans h.gr hto.2, h.far, h.gC, h.wC⟩
theorem FC.store {w W : World} {g C : Nat} {t : TypeId} {v : Value} {k : Nat} {xs : List Value} {cs : Array Value} {b : List Nat} {at_ : Nat} {x : Option (Int × Nat)} (h : FC w W g C t v k xs cs b at_ x) (i : Nat) (u : Value) : FC w (W.setCell ⟨C, i, none⟩ u) g C t v k xs (cs.setIfInBounds i u) b at_ x :=
  ⟨h.rd.store h.gC i u, h.own.kept (only_setCell (p := ⟨C, i, none⟩) (World.grownBy.refl W (some C)) (.inl rfl) u) h.far, h.blk.set_ i u, only_setCell (p := ⟨C, i, none⟩) h.gr (.inr h.wC) u, h.far, h.gC, h.wC⟩
theorem FC.new {w W : World} {g : Nat} {t : TypeId} {v : Value} {k : Nat} {xs : List Value} {b : List Nat} {at_ : Nat} {x : Option (Int × Nat)} (hS : RfS W g b at_ x) (hown : W.ownsRow w.heap.size t 3 v k xs) (hG : w.grownBy W (some g)) (cs : Array Value) : FC w (W.alloc (.cells cs t)) g W.heap.size t v k xs cs b at_ x := by
  refine ⟨hS.alloc _, hown.alloc _, Blk.new W t cs, only_alloc hG _, ?_, hS.lt, hG.size⟩
  cases hq : v.ownBlock with
  | none => exact .inl rfl
  | some q => exact .inr fun e => by injection e with e; have := (hown.lt q hq).2; omega
theorem rf_app {w w' : World} {g : Nat} {l : List Nat} {at_ : Nat} {x : Option (Int × Nat)} (h : RfS w g l at_ x) {B n size : Nat} {t : TypeId} {v : Value} {xs : List Value} (hown : w.ownsRow B t size v n xs) (hgB : g < B) (o : Obj) (hg : (w.alloc o).grownBy w' v.ownBlock) : RfS w' g l at_ x :=
  (h.alloc o).grown hg (fun q hq => by have := (hown.lt q hq).1; omega)
/-- Columns in new memory, and the document's reader behind them. -/
def TookFS (w : World) (g : Nat) (b : List Nat) (r : List Cl × Nat × Option (Int × Nat)) (e : Ending) (w' : World) : Prop :=
  ∃ v, e = .returned v ∧ w'.ownsRow w.heap.size 69 3 v r.1.length (cls r.1) ∧ RfTo w g b r.2.1 r.2.2 w'
set_option maxHeartbeats 4000000 in
theorem refTakeS_any {w : World} {g : Nat} {b : List Nat} {at_ : Nat} {x : Option (Int × Nat)} (hS : RfS w g b at_ x) :
    Calls Tryd.prog 12 #[.pointer (some ⟨g, 0, none⟩)] w (TookFS w g b (tkS b at_ x)) := by
  obtain ⟨i0, hi0, hz0, hz1, hz2⟩ := info_parts info_col
  have hgw := hS.lt
  have hby := hS.byte
  have hfx := rfix_is 1 hS
  have hsm := fix_small b at_ x hby
  have hT : tkS b at_ x = (if failS (csS b (fixS b at_ x 1).2.1 (fixS b at_ x 1).2.2 (fixS b at_ x 1).1).2.1 (csS b (fixS b at_ x 1).2.1 (fixS b at_ x 1).2.2 (fixS b at_ x 1).1).2.2 (scE (csS b (fixS b at_ x 1).2.1 (fixS b at_ x 1).2.2 (fixS b at_ x 1).1).1) = none then (csS b (fixS b at_ x 1).2.1 (fixS b at_ x 1).2.2 (fixS b at_ x 1).1).1 else [],
    (csS b (fixS b at_ x 1).2.1 (fixS b at_ x 1).2.2 (fixS b at_ x 1).1).2.1, failS (csS b (fixS b at_ x 1).2.1 (fixS b at_ x 1).2.2 (fixS b at_ x 1).1).2.1 (csS b (fixS b at_ x 1).2.1 (fixS b at_ x 1).2.2 (fixS b at_ x 1).1).2.2 (scE (csS b (fixS b at_ x 1).2.1 (fixS b at_ x 1).2.2 (fixS b at_ x 1).1).1)) := rfl
  obtain ⟨⟨c, a0, x0⟩, hF⟩ : ∃ y, fixS b at_ x 1 = y := ⟨_, rfl⟩
  rw [hF] at hfx hsm hT
  simp only at hfx hsm hT
  have hcw : IntKind.i64.wrap (c : Int) = (c : Int) := IntWalk.i64_in _ (by omega)
  have HFX := Lib.hid hfx; have HBY := Lib.hid hby
  have HLN := Lib.hid (csS_length b a0 x0)
  have HNX : Hid (∀ k, csS b a0 x0 (k + 1) = ((csS b a0 x0 k).1 ++ [(tkC b (csS b a0 x0 k).2.1 (csS b a0 x0 k).2.2).1], (tkC b (csS b a0 x0 k).2.1 (csS b a0 x0 k).2.2).2)) := Lib.hid fun k => rfl
  have HZ : Hid (csS b a0 x0 0 = ([], a0, x0)) := Lib.hid rfl
  have HE : Hid (∀ k y, k ≤ c → (csS b a0 x0 k).2.2 = some y → tkS b at_ x = ([], (csS b a0 x0 k).2.1, some y)) := Lib.hid (by
    intro k y hk hy
    have := csS_stop hy (c - k)
    rw [show k + (c - k) = c by omega] at this
    rw [hT, this]
    simp [failS])
  have HT := Lib.hid hT
  obtain ⟨cs, hcs⟩ : ∃ f : Nat → List Cl × Nat × Option (Int × Nat), csS b a0 x0 = f := ⟨_, rfl⟩
  rw [hcs] at HT HLN HNX HZ HE
  clear hfx hT hS hF hcs hby
  go_enter Tryd.func12, Tryd.ntmps12
  go_wp2_with fail
  refine HFX.out.mono ?_
  rintro e w1 ⟨rfl, hS1, hG1⟩
  go_wp2_with fail
  go_loopw [4, 5, 6, 7] (fun v i _ _ wr => ∃ k : Nat, k ≤ c ∧ i = .int .i64 (k : Int) ∧ wr.ownsRow w.heap.size 69 3 v k (cls (cs k).1) ∧ RfS wr g b (cs k).2.1 (cs k).2.2 ∧ w.grownBy wr (some g)) (fun _ i _ _ _ => c - (intOf i).toNat)
  case atStart => exact ⟨0, Nat.zero_le _, rfl, by rw [HZ.out]; exact own_nil _ _ _ _, by rw [HZ.out]; exact hS1, hG1⟩
  case round =>
    clear hS1 hG1 HFX
    obtain ⟨k, hk, rfl, hown, hS, hG⟩ := hrel
    obtain ⟨⟨l, a1, x1⟩, hC⟩ : ∃ y, cs k = y := ⟨_, rfl⟩
    have hEk := HE.out k
    have hnx := HNX.out k
    have hln := HLN.out k
    have hTk : k = c → tkS b at_ x = (if failS a1 x1 (scE l) = none then l else [], a1, failS a1 x1 (scE l)) := fun e => by have := HT.out; rw [← e, hC] at this; exact this
    rw [hC] at hown hS hEk hnx hln
    simp only at hown hS hEk hnx hln
    obtain ⟨A4, c4, rfl, _, _, hr4⟩ := own_slice hown
    have HTK := Lib.hid hTk; have HEK := Lib.hid hEk; have HNK := Lib.hid hnx; have HLK := Lib.hid hln
    clear hTk hEk hnx hln hC
    cases x1 with
    | some y =>
      have hR := Lib.hid (HEK.out y hk rfl)
      have hy : y.1 ≠ 0 := hS.2 y rfl
      have hcE : wr.cell? ⟨g, 2, none⟩ = some (.int .i64 y.1) := hS.cellE
      have q1 : (y.1 == 0) = false := by simpa using hy
      have q2 : (y.1 != 0) = true := by simpa using hy
      clear hy
      by_cases hlt : k < c
      case' pos => skip
      case' neg => obtain rfl : k = c := by omega
      all_goals
        go_wp2_with fail
        go_ret
        rw [hR.out]
        exact ⟨_, rfl, own_nil _ _ _ _, hS, hG⟩
    | none =>
      have hcE : wr.cell? ⟨g, 2, none⟩ = some (.int .i64 0) := hS.cellE
      by_cases hlt : k < c
      · have h1 := rfix_is 1 hS
        have s1 := fix_small b a1 none HBY.out
        have hT : tkC b a1 none = ((((fixS b a1 none 1).1 : Int), decide ((fixS b (fixS b a1 none 1).2.1 (fixS b a1 none 1).2.2 1).1 = 1), ((fixS b (fixS b (fixS b a1 none 1).2.1 (fixS b a1 none 1).2.2 1).2.1 (fixS b (fixS b a1 none 1).2.1 (fixS b a1 none 1).2.2 1).2.2 1).1 : Int) - 1),
          (fixS b (fixS b (fixS b a1 none 1).2.1 (fixS b a1 none 1).2.2 1).2.1 (fixS b (fixS b a1 none 1).2.1 (fixS b a1 none 1).2.2 1).2.2 1).2.1,
          if 1 < (fixS b (fixS b a1 none 1).2.1 (fixS b a1 none 1).2.2 1).1 then failS (fixS b (fixS b (fixS b a1 none 1).2.1 (fixS b a1 none 1).2.2 1).2.1 (fixS b (fixS b a1 none 1).2.1 (fixS b a1 none 1).2.2 1).2.2 1).2.1 (fixS b (fixS b (fixS b a1 none 1).2.1 (fixS b a1 none 1).2.2 1).2.1 (fixS b (fixS b a1 none 1).2.1 (fixS b a1 none 1).2.2 1).2.2 1).2.2 4 else (fixS b (fixS b (fixS b a1 none 1).2.1 (fixS b a1 none 1).2.2 1).2.1 (fixS b (fixS b a1 none 1).2.1 (fixS b a1 none 1).2.2 1).2.2 1).2.2) := rfl
        obtain ⟨⟨kd, p1, y1⟩, hF1⟩ : ∃ y, fixS b a1 none 1 = y := ⟨_, rfl⟩
        rw [hF1] at h1 s1 hT
        simp only at h1 s1 hT
        have h2 := fun (W : World) (h : RfS W g b p1 y1) => rfix_is 1 h
        have s2 := fix_small b p1 y1 HBY.out
        obtain ⟨⟨nu, p2, y2⟩, hF2⟩ : ∃ y, fixS b p1 y1 1 = y := ⟨_, rfl⟩
        rw [hF2] at h2 s2 hT
        simp only at h2 s2 hT
        have h3 := fun (W : World) (h : RfS W g b p2 y2) => rfix_is 1 h
        have s3 := fix_small b p2 y2 HBY.out
        obtain ⟨⟨wy, p3, y3⟩, hF3⟩ : ∃ y, fixS b p2 y2 1 = y := ⟨_, rfl⟩
        rw [hF3] at h3 s3 hT
        simp only at h3 s3 hT
        have hw1 : IntKind.i64.wrap (kd : Int) = (kd : Int) := IntWalk.i64_in _ (by omega)
        have hw2 : IntKind.i64.wrap (wy : Int) = (wy : Int) := IntWalk.i64_in _ (by omega)
        have hw3 : IntKind.i64.wrap ((wy : Int) - 1) = (wy : Int) - 1 := IntWalk.i64_in _ (by omega)
        have h4 := fun (W : World) (h : RfS W g b p3 y3) => rfail_is 4 h
        have hfin : ∀ (q : Bool) (y4 : Option (Int × Nat)), tkC b a1 none = (((kd : Int), q, (wy : Int) - 1), p3, y4) → Hid (cs (k + 1) = (l ++ [((kd : Int), q, (wy : Int) - 1)], p3, y4)) := fun q y4 h => Lib.hid (by rw [HNK.out, h])
        have H1 := Lib.hid h1; have H2 := Lib.hid h2; have H3 := Lib.hid h3; have H4 := Lib.hid h4; have HFI := Lib.hid hfin
        clear h1 h2 h3 h4 hfin hF1 hF2 hF3 hr4 s1 s2 s3
        have hgo : ∀ (w5 : World) (q : Bool) (y4 : Option (Int × Nat)) (C : Nat), FC w w5 g C 69 (.slice A4 k c4) k (cls l) #[.int .i64 (kd : Int), .bool q, .int .i64 ((wy : Int) - 1)] b p3 y4 → ∀ (v6 : Value) (w6 : World) (o : Obj), w6.ownsRow w.heap.size 69 3 v6 (k + 1) (cls l ++ cc ((kd : Int), q, (wy : Int) - 1)) → (w5.alloc o).grownBy w6 (Value.slice A4 k c4).ownBlock → cs (k + 1) = (l ++ [((kd : Int), q, (wy : Int) - 1)], p3, y4) →
            w6.ownsRow w.heap.size 69 3 v6 (k + 1) (cls (cs (k + 1)).1) ∧ RfS w6 g b (cs (k + 1)).2.1 (cs (k + 1)).2.2 ∧ w.grownBy w6 (some g) := by
          intro w5 q y4 C hFC v6 w6 o h1 h2 h3
          rw [h3]
          refine ⟨?_, rf_app hFC.rd hFC.own hgw o h2, only_rowN hFC.gr (Nat.le_refl _) hFC.own o h2⟩
          simp only
          rw [cls_append, cls_one]
          exact h1
        have HGO := Lib.hid hgo
        clear hgo
        by_cases hn : 1 < nu
        case' pos =>
          rw [if_pos hn, show decide (nu = 1) = false by simp; omega] at hT
          have HN := HFI.out _ _ hT
          have d1 : decide ((1 : Int) < (nu : Int)) = true := by simp; omega
          have q1 : ((nu : Int) == 1) = false := by simp; omega
          clear hT HFI
          go_wp2_with fail
          refine H1.out.mono ?_
          rintro e w2 ⟨rfl, hS2, hG2⟩
          have T2 := FC.new hS2 (own_before hown hG2 (fun r hr => by injection hr with hr; omega)) (only_trans hG hG2) #[.int .i64 (kd : Int), .bool false, .int .i64 0]
          clear hown hS hG hS2 hG2 hcE H1
          go_wp2_with fail
          refine (H2.out _ T2.rd).mono ?_
          rintro e w3 ⟨rfl, hto3⟩
          have T3 := T2.take hgw hto3
          clear T2 hto3 H2
          go_wp2_with fail
          refine (H3.out _ T3.rd).mono ?_
          rintro e w4 ⟨rfl, hto4⟩
          have T4 := T3.take hgw hto4
          clear T3 hto4 H3
          obtain ⟨z0, z1, z2⟩ := blk3 T4.blk
          have zf := T4.blk.frozen 2
          have T5 := T4.store 2 (.int .i64 ((wy : Int) - 1))
          have HT5 := Lib.hid T5
          clear T4 T5
          go_wp2_with fail
          refine (H4.out _ HT5.out.rd).mono ?_
          rintro e w5 ⟨rfl, hto5⟩
          have T6 := HT5.out.take hgw hto5
          simp only [List.setIfInBounds_toArray, List.set_cons_succ, List.set_cons_zero] at T6
          clear HT5 hto5 H4 z0 z1 z2 zf hn
          obtain ⟨z0, z1, z2⟩ := blk3 T6.blk
          have zf := T6.blk.frozen 1
          have T7 := T6.store 1 (.bool false)
          simp only [List.setIfInBounds_toArray, List.set_cons_succ, List.set_cons_zero] at T7
          have HT7 := Lib.hid T7
          clear T6 T7
          have hrd := reads3 (w5.setCell ⟨w2.heap.size, 1, none⟩ (.bool false)) 69 (.int .i64 (kd : Int)) (.bool false) (.int .i64 ((wy : Int) - 1))
          rw [show (w5.setCell ⟨w2.heap.size, 1, none⟩ (.bool false)).heap.size = w5.heap.size by simp [World.setCell]] at hrd
          have HRD := Lib.hid hrd
          have hsz := HT7.out.gr.size
          rw [show (w5.setCell ⟨w2.heap.size, 1, none⟩ (.bool false)).heap.size = w5.heap.size by simp [World.setCell]] at hsz
          have hsz2 : w.heap.size ≤ ((w5.setCell ⟨w2.heap.size, 1, none⟩ (.bool false)).alloc (.cells #[.int .i64 (kd : Int), .bool false, .int .i64 ((wy : Int) - 1)] 69)).heap.size := by rw [World.size_alloc, show (w5.setCell ⟨w2.heap.size, 1, none⟩ (.bool false)).heap.size = w5.heap.size by simp [World.setCell]]; omega
          have HSZ2 := Lib.hid hsz2
          clear hrd hsz2
          go_wp2_with (at_builtin
                       refine wpList_append_any _ rfl (.tmp 41) (.tmp 43) _ rfl w.heap.size 69 i0 _ 3 24 Tryd.underlying23 hi0 hz0 hz1 hz2 rfl (by omega) (.slice A4 k c4) k (cls l) rfl
                         (HT7.out.own.alloc _) (w5.heap.size + 1) (some ⟨w5.heap.size, 0, none⟩) 1 1 (cc ((kd : Int), false, (wy : Int) - 1)) rfl HRD.out (cc_cell _) (by unfold maxLen; omega) (by omega) HSZ2.out ?_
                       intro v6 w6 hown6 hg6 hat6)
        case' neg =>
          rw [if_neg hn] at hT
          have d1 : decide ((1 : Int) < (nu : Int)) = false := by simp; omega
          obtain ⟨q, hq⟩ : ∃ q, decide (nu = 1) = q := ⟨_, rfl⟩
          have q1 : ((nu : Int) == 1) = q := by rw [← hq]; cases h : decide (nu = 1) <;> simp_all <;> omega
          rw [hq] at hT
          have HN := HFI.out _ _ hT
          clear hT HFI hq
          go_wp2_with fail
          refine H1.out.mono ?_
          rintro e w2 ⟨rfl, hS2, hG2⟩
          have T2 := FC.new hS2 (own_before hown hG2 (fun r hr => by injection hr with hr; omega)) (only_trans hG hG2) #[.int .i64 (kd : Int), .bool false, .int .i64 0]
          clear hown hS hG hS2 hG2 hcE H1
          go_wp2_with fail
          refine (H2.out _ T2.rd).mono ?_
          rintro e w3 ⟨rfl, hto3⟩
          have T3 := T2.take hgw hto3
          clear T2 hto3 H2
          go_wp2_with fail
          refine (H3.out _ T3.rd).mono ?_
          rintro e w4 ⟨rfl, hto4⟩
          have T4 := T3.take hgw hto4
          clear T3 hto4 H3
          obtain ⟨z0, z1, z2⟩ := blk3 T4.blk
          have zf := T4.blk.frozen 2
          have zg := T4.blk.frozen 1
          have T7 := (T4.store 2 (.int .i64 ((wy : Int) - 1))).store 1 (.bool q)
          simp only [List.setIfInBounds_toArray, List.set_cons_succ, List.set_cons_zero] at T7
          have HT7 := Lib.hid T7
          clear T4 T7
          have hrd := reads3 ((w4.setCell ⟨w2.heap.size, 2, none⟩ (.int .i64 ((wy : Int) - 1))).setCell ⟨w2.heap.size, 1, none⟩ (.bool q)) 69 (.int .i64 (kd : Int)) (.bool q) (.int .i64 ((wy : Int) - 1))
          rw [show ((w4.setCell ⟨w2.heap.size, 2, none⟩ (.int .i64 ((wy : Int) - 1))).setCell ⟨w2.heap.size, 1, none⟩ (.bool q)).heap.size = w4.heap.size by simp [World.setCell]] at hrd
          have HRD := Lib.hid hrd
          have hsz := HT7.out.gr.size
          rw [show ((w4.setCell ⟨w2.heap.size, 2, none⟩ (.int .i64 ((wy : Int) - 1))).setCell ⟨w2.heap.size, 1, none⟩ (.bool q)).heap.size = w4.heap.size by simp [World.setCell]] at hsz
          have hsz2 : w.heap.size ≤ (((w4.setCell ⟨w2.heap.size, 2, none⟩ (.int .i64 ((wy : Int) - 1))).setCell ⟨w2.heap.size, 1, none⟩ (.bool q)).alloc (.cells #[.int .i64 (kd : Int), .bool q, .int .i64 ((wy : Int) - 1)] 69)).heap.size := by rw [World.size_alloc, show ((w4.setCell ⟨w2.heap.size, 2, none⟩ (.int .i64 ((wy : Int) - 1))).setCell ⟨w2.heap.size, 1, none⟩ (.bool q)).heap.size = w4.heap.size by simp [World.setCell]]; omega
          have HSZ2 := Lib.hid hsz2
          clear hrd hsz2
          go_wp2_with (at_builtin
                       refine wpList_append_any _ rfl (.tmp 41) (.tmp 43) _ rfl w.heap.size 69 i0 _ 3 24 Tryd.underlying23 hi0 hz0 hz1 hz2 rfl (by omega) (.slice A4 k c4) k (cls l) rfl
                         (HT7.out.own.alloc _) (w4.heap.size + 1) (some ⟨w4.heap.size, 0, none⟩) 1 1 (cc ((kd : Int), q, (wy : Int) - 1)) rfl HRD.out (cc_cell _) (by unfold maxLen; omega) (by omega) HSZ2.out ?_
                       intro v6 w6 hown6 hg6 hat6)
        all_goals
          obtain ⟨g1, g2, g3⟩ := HGO.out _ _ _ _ HT7.out v6 w6 _ hown6 hg6 HN.out
          clear HT7 hown6 hg6
          go_round
          case rel => exact ⟨k + 1, by omega, by go_num, g1, g2, g3⟩
          case measure => simp [intOf]; omega
      · obtain rfl : k = c := by omega
        have hT := HTK.out rfl
        have hsc := refSchema_any A4 k c4 l wr hr4 (by omega)
        have hfl := fun (W : World) (h : RfS W g b a1 none) => rfail_is (scE l) h
        obtain ⟨y, hy⟩ : ∃ y, failS a1 none (scE l) = y := ⟨_, rfl⟩
        rw [hy] at hT hfl
        obtain ⟨E, hE⟩ : ∃ E, scE l = E := ⟨_, rfl⟩
        rw [hE] at hsc hfl
        have HT2 := Lib.hid hT; have HSC := Lib.hid hsc; have HFL := Lib.hid hfl
        clear hT hsc hfl hy hE hr4 hk hlt
        go_wp2_with fail
        refine HSC.out.mono ?_
        rintro e w2 ⟨rfl, hd2⟩
        have hbd := hd2.below (Below.refl wr.heap.size wr)
        have hown2 := own_below hown hbd
        have hS2 := hS.next hbd
        have hG2 := only_below hG hbd
        clear hown hS hG hd2 hbd HSC hcE
        go_wp2_with fail
        refine (HFL.out _ hS2).mono ?_
        rintro e w3 ⟨rfl, hS3, hG3⟩
        have hown3 := own_before hown2 hG3 (fun r hr => by injection hr with hr; omega)
        have hG03 := only_trans hG2 hG3
        clear hown2 hS2 hG2 hG3 HFL
        cases y with
        | none =>
          have hcE : w3.cell? ⟨g, 2, none⟩ = some (.int .i64 0) := hS3.cellE
          go_wp2_with fail
          go_ret
          rw [HT2.out]
          first | rw [if_pos rfl] | rw [if_pos trivial]
          exact ⟨_, rfl, by simp only; rw [HLK.out]; exact hown3, hS3, hG03⟩
        | some z =>
          have hy : z.1 ≠ 0 := hS3.2 z rfl
          have hcE : w3.cell? ⟨g, 2, none⟩ = some (.int .i64 z.1) := hS3.cellE
          have q2 : (z.1 != 0) = true := by simpa using hy
          go_wp2_with fail
          go_ret
          rw [HT2.out, if_neg (by simp)]
          exact ⟨_, rfl, own_nil _ _ _ _, hS3, hG03⟩
end Go.Proofs.YtieknhhhcjdbnaaDoor
