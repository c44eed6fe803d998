/- The walk of the statement ValueTakes: of any bytes a value, a schema, or rows of any schema are taken as the document says, up to the first error. -/
import Derived.Test.YtieknhhhcjdbnaaDoorJ29
import Derived.Test.YtieknhhhcjdbnaaDoorVlTkH
import Derived.Test.YtieknhhhcjdbnaaDoorJ30
import Derived.Test.YtieknhhhcjdbnaaDoorVlCmp
import Derived.Test.YtieknhhhcjdbnaaDoorReads1
import Derived.Test.YtieknhhhcjdbnaaDoorJ13
namespace Go.Proofs.YtieknhhhcjdbnaaDoor
open Go.RowKit
set_option linter.unusedVariables false
set_option linter.unusedSimpArgs false
set_option maxRecDepth 100000

/-- Two readers of the same bytes, the code's and the document's, both new. -/
structure TwoR (w W : World) (g h : Nat) (b : List Nat) (a : Nat) (x : Option (Int × Nat)) (a' : Nat) (x' : Option (Int × Nat)) : Prop where
  rd : RdS W g b a x
  rf : RfS W h b a' x'
  below : Below w.heap.size w W
  gw : w.heap.size ≤ g
  hw : w.heap.size ≤ h
section
variable {w W W' : World} {g h : Nat} {b : List Nat} {a a' a1 : Nat} {x x' x1 : Option (Int × Nat)}
theorem TwoR.rdTo (T : TwoR w W g h b a x a' x') (hto : RdTo W g b a1 x1 W') : TwoR w W' g h b a1 x1 a' x' :=
  ⟨hto.1, T.rf.far T.rd hto.2, T.below.grown hto.2 T.below.size (fun k hk => by injection hk with hk; have := T.gw; omega), T.gw, T.hw⟩
theorem TwoR.rfTo (T : TwoR w W g h b a x a' x') (hto : RfTo W h b a1 x1 W') : TwoR w W' g h b a x a1 x1 :=
  ⟨T.rd.far T.rf hto.2, hto.1, T.below.grown hto.2 T.below.size (fun k hk => by injection hk with hk; have := T.hw; omega), T.gw, T.hw⟩
theorem TwoR.next (T : TwoR w W g h b a x a' x') (hb : Below W.heap.size W W') : TwoR w W' g h b a x a' x' :=
  ⟨T.rd.next hb, T.rf.next hb, T.below.trans (hb.mono T.below.size), T.gw, T.hw⟩
end
theorem TwoR.start {w W w1 : World} {g n c c' : Nat} {A A' : Option Addr} {b : List Nat} (hR : Rd w1 g A' n c' 0 .nilIface b) (hg : W.heap.size ≤ g) (hb1 : Below W.heap.size W w1) (hW : Below w.heap.size w W) (hr : Reads w w.heap.size 1 A n (bs b)) (hb : ∀ v ∈ b, v < 256) (hc : n ≤ c) (hn : n ≤ 140737488355328) :
    TwoR w (w1.alloc (.cells #[.slice A n c, .int .i64 0, .int .i64 0, .int .i64 0] 29)) g w1.heap.size b 0 none 0 none := by
  have hB := hW.trans (hb1.mono hW.size)
  exact ⟨(rd_new hR).alloc _, rf_new (hr.next hB) hc hn hb, hB.alloc hB.size _, by have := hW.size; omega, hB.size⟩
theorem takesV_else (A A2 : Option Addr) (n c n2 c2 : Nat) (w : World) (h : 800 < n ∨ 100 < n2 ∨ n2 = 0) :
    Calls Tryd.prog 3 #[.slice A n c, .slice A2 n2 c2] w fun e w' => e = .returned (.bool true) ∧ Below w.heap.size w w' := by
  have HAW := Lib.hid fun W => awakeV_any cmpC_any schemaC_any W
  by_cases h1 : 800 < n
  case' pos => clear h
  case' neg =>
    have h := h.resolve_left h1
    by_cases h2 : 100 < n2
    case' pos => clear h
    case' neg =>
      have h := h.resolve_left h2
      subst h
  all_goals
    go_enter Tryd.func3, Tryd.ntmps3
    go_wp2_with fail
    refine (HAW.out _).mono ?_
    rintro e w1 ⟨rfl, hb1⟩
    go_wp2_with fail
    go_ret
    exact ⟨rfl, hb1⟩
set_option maxHeartbeats 4000000 in
theorem takesV_main (A A2 : Option Addr) (n c n2 c2 : Nat) (b : List Nat) (s : List Cl) (w : World) (hr : Reads w w.heap.size 1 A n (bs b)) (hb : ∀ v ∈ b, v < 256) (hs : Reads w w.heap.size 3 A2 n2 (cls s)) (hm : Met w) (hc : n ≤ c) (hn : n ≤ 800) (hn2 : n2 ≤ 100) (hn0 : 0 < n2) :
    Calls Tryd.prog 3 #[.slice A n c, .slice A2 n2 c2] w fun e w' => e = .returned (.bool true) ∧ Below w.heap.size w w' := by
  have hsl : s.length = n2 := by have := hs.1; rw [cls_length] at this; omega
  have hap : ∀ q, w.heap.size ≤ q → Apart A2 q := by
    intro q hq ad had
    obtain ⟨ad', h1, h2, _⟩ := hs.2 hn0
    rw [had] at h1
    injection h1 with h1
    subst h1
    omega
  have HAW := Lib.hid fun W => awakeV_any cmpC_any schemaC_any W
  have HNR := Lib.hid fun (W : World) (h : Below w.heap.size w W) => newReader_any A n c b W (hr.next h) (by omega) hb
  have HST := Lib.hid fun (W w1 : World) (g : Nat) (A' : Option Addr) (c' : Nat) (hR : Rd w1 g A' n c' 0 .nilIface b) (hg : W.heap.size ≤ g) (hb1 : Below W.heap.size W w1) (hW : Below w.heap.size w W) => TwoR.start hR hg hb1 hW hr hb hc (by omega)
  have HM := Lib.hid fun (W : World) (h : Below w.heap.size w W) => hm.next h
  have HS := Lib.hid fun (W : World) (h : Below w.heap.size w W) => hs.next h
  have HAP := Lib.hid hap
  -- the value
  have hv1 := fun (W : World) (g : Nat) (hm : Met W) (h : RdS W g b 0 none) => takeV_any hm h xok_none
  have hv2 := fun (W : World) (g : Nat) (h : RfS W g b 0 none) => refTake_any h
  obtain ⟨⟨⟨v0, v1, z⟩, p1, x1⟩, hT1⟩ : ∃ y, tkV b 0 none = y := ⟨_, rfl⟩
  rw [hT1] at hv1 hv2
  have hv1' : ∀ (W : World) (g : Nat), Met W → RdS W g b 0 none → Calls Tryd.prog 7 #[.pointer (some ⟨g, 0, none⟩)] W fun e w' => e = .returned (.agg #[.int .i64 v0, .int .i64 v1, .string ⟨z.toArray⟩]) ∧ RdTo W g b p1 x1 w' := hv1
  have hv2' : ∀ (W : World) (g : Nat), RfS W g b 0 none → Calls Tryd.prog 8 #[.pointer (some ⟨g, 0, none⟩)] W fun e w' => e = .returned (.agg #[.int .i64 v0, .int .i64 v1, .string ⟨z.toArray⟩]) ∧ RfTo W g b p1 x1 w' := hv2
  -- the schema
  have hs1 := fun (W : World) (g : Nat) (hm : Met W) (h : RdS W g b 0 none) => takeS_any hm h xok_none
  have hs2 := fun (W : World) (g : Nat) (h : RfS W g b 0 none) => refTakeS_any h
  have hsn := tkS_len hb 0 none
  obtain ⟨⟨S, p2, x2⟩, hT2⟩ : ∃ y, tkS b 0 none = y := ⟨_, rfl⟩
  rw [hT2] at hs1 hs2 hsn
  simp only at hsn
  -- the rows
  have hr1 := fun (W : World) (g : Nat) (hm : Met W) (h : RdS W g b 0 none) (hs : Reads W W.heap.size 3 A2 n2 (cls s)) (ha : Apart A2 g) => takeR_any A2 n2 c2 s hm h xok_none hs ha (by omega)
  have hr2 := fun (W : World) (g : Nat) (h : RfS W g b 0 none) (hs : Reads W W.heap.size 3 A2 n2 (cls s)) (ha : Apart A2 g) => refTakeR_any A2 n2 c2 s h hs ha (by omega)
  obtain ⟨hrw, hrn⟩ := tkR_wide b s 0 none
  obtain ⟨⟨R, p3, x3⟩, hT3⟩ : ∃ y, tkR b s 0 none = y := ⟨_, rfl⟩
  rw [hT3] at hr1 hr2 hrw hrn
  simp only at hrw hrn
  have hrm : ∀ r ∈ R, r.length ≤ 65536 := fun r h => by have := hrw r h; omega
  have V1 := Lib.hid hv1'; have V2 := Lib.hid hv2'; have S1 := Lib.hid hs1; have S2 := Lib.hid hs2; have R1 := Lib.hid hr1; have R2 := Lib.hid hr2; have HRM := Lib.hid hrm
  obtain ⟨m2, hm2⟩ : ∃ m, S.length = m := ⟨_, rfl⟩
  obtain ⟨m3, hm3⟩ : ∃ m, R.length = m := ⟨_, rfl⟩
  rw [hm2] at hsn
  rw [hm3] at hrn
  have HM2 := Lib.hid hm2; have HM3 := Lib.hid hm3
  have d1 : ¬ 800 < n := by omega
  have d2 : ¬ 100 < n2 := by omega
  have d3 : ¬ n2 = 0 := by omega
  have q0 : ((n2 : Int) == 0) = false := by simp; omega
  have qz : (z == z) = true := by simp
  clear hr hb hs hm hsl hap hv1 hv2 hv1' hv2' hT1 hs1 hs2 hT2 hr1 hr2 hT3 hrw hrm hm2 hm3
  go_enter Tryd.func3, Tryd.ntmps3
  go_wp2_with fail
  refine (HNR.out _ (Below.refl _ _)).mono ?_
  rintro e w1 ⟨g, A', c', rfl, hg, hR, hb1⟩
  have T1 := HST.out w w1 g A' c' hR hg hb1 (Below.refl _ _)
  clear hg hR hb1
  go_wp2_with fail
  refine (V1.out _ _ (HM.out _ T1.below) T1.rd).mono ?_
  rintro e w2 ⟨rfl, hto2⟩
  have T2 := T1.rdTo hto2
  clear T1 hto2 V1
  go_wp2_with fail
  refine (V2.out _ _ T2.rf).mono ?_
  rintro e w3 ⟨rfl, hto3⟩
  have T3 := T2.rfTo hto3
  clear T2 hto3 V2
  go_wp2_with fail
  refine (endV_any (HM.out _ T3.below) T3.rd T3.rf).mono ?_
  rintro e w4 ⟨rfl, hb4⟩
  have hB4 := T3.below.trans (hb4.mono T3.below.size)
  clear T3 hb4
  go_wp2_with fail
  refine (HNR.out _ hB4).mono ?_
  rintro e w5 ⟨g5, A5, c5, rfl, hg, hR, hb1⟩
  have T1 := HST.out w4 w5 g5 A5 c5 hR hg hb1 hB4
  clear hg hR hb1 hB4
  go_wp2_with fail
  refine (S1.out _ _ (HM.out _ T1.below) T1.rd).mono ?_
  rintro e w6 ⟨v6, rfl, hown6, hto6⟩
  simp only at hown6 hto6
  rw [HM2.out] at hown6
  have T2 := T1.rdTo hto6
  obtain ⟨B6, d6, rfl, _, _, r6⟩ := own_slice hown6
  have hap6 : Apart B6 w5.heap.size := own_apart hown6 T1.rf.lt
  clear T1 hto6 S1 hown6
  go_wp2_with fail
  refine (S2.out _ _ T2.rf).mono ?_
  rintro e w7 ⟨v7, rfl, hown7, hto7⟩
  simp only at hown7 hto7
  rw [HM2.out] at hown7
  have T3 := T2.rfTo hto7
  have r67 := r6.off hto7.2 hap6
  obtain ⟨B7, d7, rfl, _, _, r7⟩ := own_slice hown7
  clear T2 hto7 S2 hown7 hap6 r6
  go_wp2_with fail
  refine (sameS_true B6 B7 m2 d6 d7 S w7 r67 r7 (by omega)).mono ?_
  rintro e w8 ⟨rfl, hd8⟩
  have T4 := T3.next (hd8.below (Below.refl _ _))
  clear T3 r67 r7 hd8
  go_wp2_with fail
  refine (endV_any (HM.out _ T4.below) T4.rd T4.rf).mono ?_
  rintro e w9 ⟨rfl, hb9⟩
  have hB9 := T4.below.trans (hb9.mono T4.below.size)
  clear T4 hb9
  go_wp2_with fail
  refine (HNR.out _ hB9).mono ?_
  rintro e wa ⟨g10, A10, c10, rfl, hg, hR, hb1⟩
  have T1 := HST.out w9 wa g10 A10 c10 hR hg hb1 hB9
  clear hg hR hb1 hB9
  go_wp2_with fail
  refine (R1.out _ _ (HM.out _ T1.below) T1.rd (HS.out _ T1.below) (HAP.out _ T1.gw)).mono ?_
  rintro e wb ⟨vb, us, rfl, hownb, hoffb, htob⟩
  simp only at hownb hoffb htob
  rw [HM3.out] at hownb
  have T2 := T1.rdTo htob
  obtain ⟨Bb, db, rfl, _, _, _⟩ := own_slice hownb
  have hlt : wa.heap.size < _ := T1.rf.lt
  clear htob R1
  go_wp2_with fail
  refine (R2.out _ _ T2.rf (HS.out _ T2.below) (HAP.out _ T2.hw)).mono ?_
  rintro e wc ⟨vc, us2, rfl, hownc, hoffc, htoc⟩
  simp only at hownc hoffc htoc
  rw [HM3.out] at hownc
  have T3 := T2.rfTo htoc
  have hownb2 := own_before hownb htoc.2 (fun r hr => by injection hr with hr; omega)
  have hoffb2 := hoffb.rd htoc.2 hlt
  obtain ⟨Bc, dc, rfl, _, _, _⟩ := own_slice hownc
  have VB := vv_of hoffb2 hownb2 HM3.out
  have VC := vv_of hoffc hownc HM3.out
  have hsame := sameR_true Bb Bc db dc R wc VB VC (by rw [HM3.out]; omega) HRM.out
  rw [HM3.out] at hsame
  have HSM := Lib.hid hsame
  clear T1 T2 htoc R2 hownb hownb2 hoffb hoffb2 hownc hoffc VB VC hsame hlt
  go_wp2_with fail
  refine HSM.out.mono ?_
  rintro e wd ⟨rfl, hdd⟩
  have T4 := T3.next (hdd.below (Below.refl _ _))
  clear T3 hdd HSM
  go_wp2_with fail
  refine (endV_any (HM.out _ T4.below) T4.rd T4.rf).mono ?_
  rintro e we ⟨rfl, hbe⟩
  have hBe := T4.below.trans (hbe.mono T4.below.size)
  clear T4 hbe
  go_wp2_with fail
  refine (HAW.out _).mono ?_
  rintro e wf ⟨rfl, hbf⟩
  go_wp2_with fail
  go_ret
  exact ⟨rfl, hBe.trans (hbf.mono hBe.size)⟩
theorem takesV_any (A A2 : Option Addr) (n c n2 c2 : Nat) (b : List Nat) (s : List Cl) (w : World) (hr : Reads w w.heap.size 1 A n (bs b)) (hb : ∀ v ∈ b, v < 256) (hs : Reads w w.heap.size 3 A2 n2 (cls s)) (hm : Met w) (hc : n ≤ c) :
    Calls Tryd.prog 3 #[.slice A n c, .slice A2 n2 c2] w fun e w' => e = .returned (.bool true) ∧ Below w.heap.size w w' := by
  by_cases h : 800 < n ∨ 100 < n2 ∨ n2 = 0
  · exact takesV_else A A2 n c n2 c2 w h
  · exact takesV_main A A2 n c n2 c2 b s w hr hb hs hm hc (by omega) (by omega) (by omega)
end Go.Proofs.YtieknhhhcjdbnaaDoor
