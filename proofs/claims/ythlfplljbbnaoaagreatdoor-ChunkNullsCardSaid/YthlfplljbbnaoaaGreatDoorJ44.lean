/- Texts joined: CkTog CkGet. -/
import Derived.RegionTactic
import Derived.ChangeAlike
import Derived.Test.YthlfplljbbnaoaaGreatDoorJ11
import Derived.Test.YthlfplljbbnaoaaGreatDoorJ13
import Derived.Test.YthlfplljbbnaoaaGreatDoorJ43
import Derived.Test.YthlfplljbbnaoaaGreatDoorJ41
import Derived.Test.YthlfplljbbnaoaaGreatDoorJ24
/- Contract of chunk's together: values out of which are nothing and the others. -/
namespace Go.Proofs.YthlfplljbbnaoaaGreatDoor
open Go.RowKit
set_option linter.unusedVariables false
set_option linter.unusedSimpArgs false
set_option maxRecDepth 100000

theorem elem_val : Tryz.prog.elem 22 = 42 := by kernel_rfl
theorem sizeOf_val (W : World) : (sizeOf 42).run Tryz.prog W = .ok 3 W := by
  obtain ⟨i0, hi0, hz0, hz1, hz2⟩ := info_parts info_val
  simp [sizeOf, typeInfo, hi0, hz1]
theorem slice_tail (A : Option Addr) (n c : Nat) (hp : 1 ≤ n) (W : World) : (Instr.sliceAt 22 (.slice A n c) (some (.int .i64 1)) none none).run Tryz.prog W = .ok (.slice (if c = 1 then A else A.map (·.add 3)) (n - 1) (c - 1)) W := by
  rw [run_sliceAt_slice W 22 _ _ _ _ (by rw [elem_val]; exact Tryz.underlying22), run_slice_l W 22 A n c (by rw [elem_val]; exact Tryz.underlying22) .i64 1 (by omega) (by omega), elem_val, sizeOf_val]
  simp [Result.andThen, sliced]
set_option maxHeartbeats 1000000 in
theorem together_any {w : World} {B g h n : Nat} {S : List Nat} (s : SetIn w B g h n S) (A : Option Addr) (m c : Nat) (o : List Vl) (hr : Reads w w.heap.size 3 A m (vs o)) (hm : m = n - cnt (bit S) n) (hc : m ≤ c) (hcm : c ≤ maxLen) :
    Calls Tryz.prog 34 #[.pointer (some ⟨g, 0, none⟩), .slice A m c] w
      fun e w' => ∃ v, e = .returned v ∧ w'.ownsRow w.heap.size 42 3 v n (vs (tog (bit S) o n)) ∧ Below w.heap.size w w' := by
  have e1 : o.length = m := by have := hr.1; rw [vs_length] at this; omega
  have hn := s.le
  obtain ⟨O, hO⟩ : ∃ O, tog (bit S) o n = O := ⟨_, rfl⟩
  have hOl : O.length = n := by rw [← hO, tog_length]
  rw [hO]
  have hmk := fun W => run_make_vals n (by omega) W
  rw [← fillV_zero O n hOl] at hmk
  have hF0 := Blk.new w 42 (fillV O 0)
  have hb0 : Below w.heap.size w (w.alloc (.cells (fillV O 0) 42)) := (Below.refl _ _).alloc (Nat.le_refl _) _
  have HLn := Lib.hid (Len_any s)
  have HH := Lib.hid fun (W : World) (hb : Below w.heap.size w W) (k : Nat) => Has_any (s.below hb (Nat.le_refl _)) (k : Int)
  have HOL := Lib.hid hOl; have HO := Lib.hid hO; have HE := Lib.hid e1; have HM := Lib.hid hm
  clear hOl hO e1 hm
  go_enter Tryz.func34, Tryz.ntmps34
  go_wp2_with fail
  refine HLn.out.mono ?_
  rintro e w' ⟨rfl, rfl⟩
  go_wp2_with fail
  clear hmk
  go_loopw [1, 12] (fun s1 s12 wr => ∃ k : Nat, k ≤ n ∧ s12 = .int .i64 (k : Int) ∧ Blk wr w.heap.size 42 (fillV O k) ∧ Below w.heap.size w wr ∧ ∃ A' m' c', s1 = .slice A' m' c' ∧ m' ≤ c' ∧ c' ≤ maxLen ∧ Reads w w.heap.size 3 A' m' (vs (o.drop (k - cnt (bit S) k)))) (fun _ i _ => n - (intOf i).toNat)
  case atStart => exact ⟨0, by omega, rfl, hF0, hb0, A, m, c, rfl, hc, hcm, by simpa using hr⟩
  case round =>
    clear hF0 hb0
    obtain ⟨k, hk, rfl, hF, hb, A', m', c', rfl, hc', hcm', hrd⟩ := hrel
    by_cases hlt : k < n
    · have hFl := hF.lt
      have hh := HH.out wr hb k
      rw [has_at hlt] at hh
      have hot := tog_at (bit S) o hlt
      rw [HO.out] at hot
      have hml : m' = o.length - (k - cnt (bit S) k) := by have := hrd.1; rw [vs_length, List.length_drop] at this; omega
      cases hbit : bit S k with
      | true =>
        rw [hbit] at hh
        rw [tgA_null o hbit] at hot
        have hF1 : Blk wr w.heap.size 42 (fillV O (k + 1)) := by rw [fillV_skip O k hot]; exact hF
        have hrd1 : Reads w w.heap.size 3 A' m' (vs (o.drop (k + 1 - cnt (bit S) (k + 1)))) := by rw [cnt_skip _ hbit]; exact hrd
        have HX := Lib.hid hh
        clear hh hot hF hrd hbit hml
        go_wp2_with fail
        refine HX.out.mono ?_
        rintro e w' ⟨rfl, rfl⟩
        go_wp2_with fail
        go_round
        case rel => exact ⟨k + 1, by omega, by go_num, hF1, hb, A', m', c', rfl, hc', hcm', hrd1⟩
        case measure => simp [intOf]; omega
      | false =>
        rw [hbit] at hh
        have hroom := cnt_room (bit S) (k := k + 1) (n := n) (by omega)
        rw [cnt_next _ hbit] at hroom
        have hm1 : 1 ≤ m' := by have := HE.out; have := HM.out; omega
        obtain ⟨⟨v0, v1, z⟩, hv⟩ : ∃ v, o[k - cnt (bit S) k]? = some v := ⟨_, List.getElem?_eq_getElem (by omega)⟩
        rw [tgA_next hbit hv] at hot
        have hv0 : (o.drop (k - cnt (bit S) k))[0]? = some (v0, v1, z) := by rw [List.getElem?_drop]; exact hv
        obtain ⟨bb, off, rfl, hbb, x0, x1, x2⟩ := (hrd.below hb).val hv0
        obtain ⟨A2, hA2⟩ : ∃ A2, A2 = (if c' = 1 then (some ⟨bb, off, none⟩ : Option Addr) else Option.map (fun x : Addr => x.add 3) (some ⟨bb, off, none⟩)) := ⟨_, rfl⟩
        have hrd1 : Reads w w.heap.size 3 A2 (m' - 1) (vs (o.drop (k + 1 - cnt (bit S) (k + 1)))) := by
          have := hrd.cut (k := 1) (cap := c') hm1 hc'
          rw [show 1 * 3 = 3 from rfl, ← hA2] at this
          have e : (vs (o.drop (k - cnt (bit S) k))).drop 3 = vs (o.drop (k + 1 - cnt (bit S) (k + 1))) := by
            rw [cnt_next _ hbit]
            have hd := List.drop_eq_getElem_cons (l := o) (i := k - cnt (bit S) k) (by omega)
            rw [hd, vs_cons]
            simp [vc]
          rwa [e] at this
        have hsl := fun W => slice_tail (some ⟨bb, off, none⟩) m' c' hm1 W
        rw [← hA2] at hsl
        have HST := Lib.hid (hF.val hot)
        obtain ⟨y0, y1, y2⟩ := fillV_old O k k (Nat.le_refl _) (by rw [HOL.out]; exact hlt)
        rw [← hF.cell] at y0 y1 y2
        have f0 := hF.frozen (k * 3); have f1 := hF.frozen (k * 3 + 1); have f2 := hF.frozen (k * 3 + 2)
        have HX := Lib.hid hh
        have n0 : 0 < m' := by omega
        have n1 : (0 : Int) < (m' : Int) := by omega
        simp only [Nat.zero_mul, Nat.add_zero] at x0 x1 x2
        clear hh hot hF hrd hbit hml hroom hv hv0 hA2
        go_wp2_with fail
        refine HX.out.mono ?_
        rintro e w' ⟨rfl, rfl⟩
        go_wp2_with fail
        go_region
        have hb2 : Below w.heap.size w (((wr.setCell ⟨w.heap.size, k * 3, none⟩ (.int .i64 v0)).setCell ⟨w.heap.size, k * 3 + 1, none⟩ (.int .i64 v1)).setCell ⟨w.heap.size, k * 3 + 2, none⟩ (.string ⟨z.toArray⟩)).drew :=
          (Drawn.one _ 1).below (((hb.setCell (p := ⟨w.heap.size, k * 3, none⟩) (Nat.le_refl _) _).setCell (p := ⟨w.heap.size, k * 3 + 1, none⟩) (Nat.le_refl _) _).setCell (p := ⟨w.heap.size, k * 3 + 2, none⟩) (Nat.le_refl _) _)
        go_wp2_with fail
        go_round
        case rel => exact ⟨k + 1, by omega, by go_num, HST.out.drew, hb2, A2, m' - 1, c' - 1, rfl, by omega, by omega, hrd1⟩
        case measure => simp [intOf]; omega
    · obtain rfl : k = n := by omega
      rw [fillV_all _ k HOL.out] at hF
      go_wp2_with fail
      go_ret
      exact ⟨_, rfl, own_whole3 hF (Nat.le_refl _) HOL.out (by unfold maxLen; omega), hb⟩
end Go.Proofs.YthlfplljbbnaoaaGreatDoor

/- Contract of chunk's Get: the values in new memory, or the error's number. -/
namespace Go.Proofs.YthlfplljbbnaoaaGreatDoor
open Go.RowKit
set_option linter.unusedVariables false
set_option linter.unusedSimpArgs false
set_option maxRecDepth 100000

theorem gt_arg {b : List Nat} {kd k : Int} (h : (kd ≠ 1 ∧ kd ≠ 2) ∨ k < 0 ∨ 65536 < k) : gtE b kd k = 1 ∧ gtV b kd k = [] := by
  have h1 : gtE b kd k = 1 := by unfold gtE; rw [if_pos h]
  exact ⟨h1, by unfold gtV; rw [h1, if_neg (by decide)]⟩
theorem get_no (A : Option Addr) (n c : Nat) (kd k : Int) (b : List Nat) (w : World) (h : (kd ≠ 1 ∧ kd ≠ 2) ∨ k < 0 ∨ 65536 < k) :
    Calls Tryz.prog 14 #[.slice A n c, .int .i64 kd, .int .i64 k] w (CkGet w b kd k) := by
  obtain ⟨h1, h2⟩ := gt_arg (b := b) h
  unfold CkGet
  rw [h1, h2]
  clear h1 h2
  by_cases hk : kd = 1 ∨ kd = 2
  · have HK := Lib.hid (isKind_any kd w)
    rw [isK_yes hk] at HK
    by_cases h0 : k < 0
    · have d1 : decide (k < 0) = true := by simp [h0]
      clear h
      go_enter Tryz.func14, Tryz.ntmps14
      go_wp2_with fail
      refine HK.out.mono ?_
      rintro e w' ⟨rfl, rfl⟩
      go_wp2_with fail
      go_ret2
      exact ⟨_, rfl, own_nil _ _ _ _, Below.refl _ _⟩
    · have d1 : decide (k < 0) = false := by simp; omega
      have d2 : decide (65536 < k) = true := by simp; omega
      clear h
      go_enter Tryz.func14, Tryz.ntmps14
      go_wp2_with fail
      refine HK.out.mono ?_
      rintro e w' ⟨rfl, rfl⟩
      go_wp2_with fail
      go_ret2
      exact ⟨_, rfl, own_nil _ _ _ _, Below.refl _ _⟩
  · have HK := Lib.hid (isKind_any kd w)
    rw [isK_no hk] at HK
    clear h
    go_enter Tryz.func14, Tryz.ntmps14
    go_wp2_with fail
    refine HK.out.mono ?_
    rintro e w' ⟨rfl, rfl⟩
    go_wp2_with fail
    go_ret2
    exact ⟨_, rfl, own_nil _ _ _ _, Below.refl _ _⟩
theorem gtV_no {b : List Nat} {kd k : Int} (h : gtE b kd k ≠ 0) : gtV b kd k = [] := by unfold gtV; rw [if_neg h]
set_option maxHeartbeats 2000000 in
theorem get_0 (A : Option Addr) (n c N : Nat) (kd : Int) (b : List Nat) (w : World) (hr : Reads w w.heap.size 1 A n (bs b)) (hb : ∀ x ∈ b, x < 256) (hn : n ≤ 140737488355300) (hmet : Met w) (hk : kd = 1 ∨ kd = 2) (hN : N ≤ 65536) (a1 : Nat) (x1 : Option (Int × Nat)) (hfx : fixS b 0 none 1 = (0, a1, x1)) (hend : Ends b kd N (List.replicate (siz N) 0) (oS b a1 x1 kd (N : Int))) :
    Calls Tryz.prog 14 #[.slice A n c, .int .i64 kd, .int .i64 (N : Int)] w (CkGet w b kd (N : Int)) := by
  have HFX := Lib.hid hfx; have HB := Lib.hid hb
  have hcn : cnt (bit (List.replicate (siz N) 0)) N = 0 := cnt_off fun k _ => bit_zeros _ k
  unfold CkGet
  rcases hO : oS b a1 x1 kd (N : Int) with ⟨O, a2, x2⟩
  have HO := Lib.hid hO
  rw [hO] at hend
  obtain ⟨he1, he2⟩ := hend
  simp only at he1 he2
  rw [hcn] at he2
  obtain ⟨S, hS⟩ : ∃ S, List.replicate (siz N) 0 = S := ⟨_, rfl⟩
  obtain ⟨R, hR⟩ : ∃ R, gtE b kd (N : Int) = R := ⟨_, rfl⟩
  rw [hR] at he1 he2 ⊢
  rw [hS] at he2 hcn
  have HS := Lib.hid hS; have HCN := Lib.hid hcn
  have HV := Lib.hid (fun h : R ≠ 0 => gtV_no (b := b) (kd := kd) (k := (N : Int)) (by rw [hR]; exact h))
  obtain ⟨V, hV⟩ : ∃ V, gtV b kd (N : Int) = V := ⟨_, rfl⟩
  rw [hV] at he2 HV ⊢
  have HE1 := Lib.hid he1; have HE2 := Lib.hid he2
  clear hfx hb hO he1 he2 hR hS hcn hV
  have HK := Lib.hid (isKind_any kd w)
  rw [isK_yes hk] at HK
  have d1 : decide ((N : Int) < 0) = false := by simp
  have d2 : decide ((65536 : Int) < (N : Int)) = false := by simp; omega
  go_enter Tryz.func14, Tryz.ntmps14
  go_wp2_with fail
  refine HK.out.mono ?_
  rintro e w' ⟨rfl, rfl⟩
  go_wp2_with fail
  refine (newReader_any A n c b w hr (by omega) HB.out).mono ?_
  rintro e w1 ⟨g, A1, c1, rfl, hg, hR1, hb1⟩
  have hS1 := rd_new hR1
  have hg1 := hS1.lt
  have hm1 := hmet.next hb1
  clear hR1
  go_wp2_with fail
  refine (New_any N w1 hN).mono ?_
  rintro e w2 ⟨gs, hs, rfl, hset, hb2⟩
  have hS2 := hS1.next hb2
  have hm2 := hm1.next hb2
  have hb02 := hb1.trans (hb2.mono hb1.size)
  have hf := nfix_is 1 hS2
  rw [HFX.out] at hf
  clear hS1 hm1 hb1
  go_wp2_with fail
  refine hf.mono ?_
  clear hf
  rintro e w3 ⟨rfl, hS3, hG3⟩
  have hR3 : Ro w2 w3 g b _ _ := ⟨hS3, hG3, hm2.rd2 hS2 hG3⟩
  have hgs := hset.bg
  have hhs := hset.bh
  have hset3 := hset.grown hG3 (fun e => by injection e with e; omega) (fun e => by injection e with e; omega)
  clear hS2 hm2 hS3 hG3 hset
  rw [HS.out] at hset3
  go_wp2_with fail
  have hcc := Count_any hset3
  rw [HCN.out] at hcc
  refine hcc.mono ?_
  clear hcc
  rintro e w' ⟨rfl, rfl⟩
  go_wp2_with fail
  have hro := readO_any kd (N : Int) hR3.rd hk hR3.met
  rw [HO.out] at hro
  refine hro.mono ?_
  clear hro
  rintro e w4 ⟨v4, rfl, hown4, hR4⟩
  simp only at hown4 hR4
  obtain ⟨A4, c4, rfl, hc4, hcm4, _⟩ := own_slice hown4
  have hset4 := hset3.grown hR4.gr (fun e => by injection e with e; omega) (fun e => by injection e with e; omega)
  have hb04 := hb02.grown (only_trans hR3.gr hR4.gr) hb02.size (fun j hj => by injection hj with hj; omega)
  clear hset3 hR3 hb02
  have hcl := err_is hR4.met hR4.rd
  obtain ⟨on, hon⟩ : ∃ on : Int, ((errS x2).2 : Int) = on := ⟨_, rfl⟩
  rw [HE1.out, hon] at hcl
  have HCL := Lib.hid hcl
  clear hcl hon
  go_wp2_with fail
  refine HCL.out.mono ?_
  rintro e w7 ⟨he, hb7⟩
  have he' : e = .returned (.tuple #[.int .i64 R, .int .i64 on]) := he
  subst he'
  have hb07 := hb04.trans (hb7.mono hb04.size)
  by_cases hR0 : R = 0
  case neg =>
    have q : (R != 0) = true := by simp [hR0]
    go_wp2_with fail
    go_ret2
    rw [HV.out hR0]
    exact ⟨_, rfl, own_nil _ _ _ _, hb07⟩
  case pos =>
    subst hR0
    obtain ⟨hv, hol⟩ := HE2.out rfl
    have HVV := Lib.hid hv
    have hset7 := hset4.below hb7 (Nat.le_refl _)
    have hown7 := own_below hown4 hb7
    have r7 := Reads.of_own hown7
    have HTG := Lib.hid (together_any hset7 A4 O.length c4 O r7 (by rw [hol, HCN.out]) hc4 hcm4)
    have HTL := Lib.hid (tog_length (bit S) O N)
    clear hset4 hown4 hown7 r7 hv hol
    go_wp2_with fail
    refine HTG.out.mono ?_
    rintro e w8 ⟨v8, rfl, hown8, hb8⟩
    go_wp2_with fail
    go_ret2
    rw [HVV.out, HTL.out]
    exact ⟨_, rfl, own_base hown8 hb07.size, hb07.trans (hb8.mono hb07.size)⟩
set_option maxHeartbeats 2000000 in
theorem get_x (A : Option Addr) (n c N : Nat) (kd : Int) (b : List Nat) (w : World) (hr : Reads w w.heap.size 1 A n (bs b)) (hb : ∀ x ∈ b, x < 256) (hn : n ≤ 140737488355300) (hmet : Met w) (hk : kd = 1 ∨ kd = 2) (hN : N ≤ 65536) (y : Nat) (hy : 1 < y) (hy2 : y < 256) (hfx : fixS b 0 none 1 = (y, 1, none)) (hend : gtE b kd (N : Int) = 4) :
    Calls Tryz.prog 14 #[.slice A n c, .int .i64 kd, .int .i64 (N : Int)] w (CkGet w b kd (N : Int)) := by
  have HFX := Lib.hid hfx; have HB := Lib.hid hb
  have hV := gtV_no (b := b) (kd := kd) (k := (N : Int)) (by rw [hend]; decide)
  unfold CkGet
  obtain ⟨R, hRR⟩ : ∃ R : Int, R = 4 := ⟨_, rfl⟩
  have hR0 : R ≠ 0 := by omega
  have hx : (errS (failS 1 none 4)).1 = R := by rw [hRR]; exact errS_fail 1 4
  have HV : Hid (R ≠ 0 → ([] : List Vl) = []) := Lib.hid fun _ => rfl
  rw [hV, hend, ← hRR]
  have q1 : ((y : Int) == 1) = false := by simp; omega
  have q0 : ((y : Int) == 0) = false := by simp; omega
  clear hfx hb hend hV hRR
  have HK := Lib.hid (isKind_any kd w)
  rw [isK_yes hk] at HK
  have d1 : decide ((N : Int) < 0) = false := by simp
  have d2 : decide ((65536 : Int) < (N : Int)) = false := by simp; omega
  go_enter Tryz.func14, Tryz.ntmps14
  go_wp2_with fail
  refine HK.out.mono ?_
  rintro e w' ⟨rfl, rfl⟩
  go_wp2_with fail
  refine (newReader_any A n c b w hr (by omega) HB.out).mono ?_
  rintro e w1 ⟨g, A1, c1, rfl, hg, hR1, hb1⟩
  have hS1 := rd_new hR1
  have hg1 := hS1.lt
  have hm1 := hmet.next hb1
  clear hR1
  go_wp2_with fail
  refine (New_any N w1 hN).mono ?_
  rintro e w2 ⟨gs, hs, rfl, hset, hb2⟩
  have hS2 := hS1.next hb2
  have hm2 := hm1.next hb2
  have hb02 := hb1.trans (hb2.mono hb1.size)
  have hf := nfix_is 1 hS2
  rw [HFX.out] at hf
  clear hS1 hm1 hb1
  go_wp2_with fail
  refine hf.mono ?_
  clear hf
  rintro e w3 ⟨rfl, hS3, hG3⟩
  have hR3 : Ro w2 w3 g b _ _ := ⟨hS3, hG3, hm2.rd2 hS2 hG3⟩
  have hgs := hset.bg
  have hhs := hset.bh
  have hset3 := hset.grown hG3 (fun e => by injection e with e; omega) (fun e => by injection e with e; omega)
  clear hS2 hm2 hS3 hG3 hset
  go_wp2_with fail
  refine (fail_is 4 hR3.rd).mono ?_
  rintro e w4 ⟨rfl, hS4, hG4⟩
  have hR4 := hR3.take hS4 hG4
  have hb04 := hb02.grown hR4.gr hb02.size (fun j hj => by injection hj with hj; omega)
  clear hset3 hR3 hb02 hS4 hG4
  have hcl := err_is hR4.met hR4.rd
  obtain ⟨on, hon⟩ : ∃ on : Int, ((errS (failS 1 none 4)).2 : Int) = on := ⟨_, rfl⟩
  rw [hx, hon] at hcl
  have HCL := Lib.hid hcl
  clear hcl hon
  go_wp2_with fail
  refine HCL.out.mono ?_
  rintro e w7 ⟨he, hb7⟩
  have he' : e = .returned (.tuple #[.int .i64 R, .int .i64 on]) := he
  subst he'
  have q : (R != 0) = true := by simp [hR0]
  go_wp2_with fail
  go_ret2
  exact ⟨_, rfl, own_nil _ _ _ _, hb04.trans (hb7.mono hb04.size)⟩
set_option maxHeartbeats 4000000 in
theorem get_1 (A : Option Addr) (n c N : Nat) (kd : Int) (b : List Nat) (w : World) (hr : Reads w w.heap.size 1 A n (bs b)) (hb : ∀ x ∈ b, x < 256) (hn : n ≤ 140737488355300) (hmet : Met w) (hk : kd = 1 ∨ kd = 2) (hN : N ≤ 65536) (hfx : fixS b 0 none 1 = (1, 1, none)) (hend : Ends b kd N (nS b 1 none N).1 (oS b (nS b 1 none N).2.1 (nS b 1 none N).2.2 kd ((N - nC (nS b 1 none N).1 N : Nat) : Int)) ∧ (gtE b kd (N : Int) = 0 → rdE (nS b 1 none N).1 (N : Int) = 0)) :
    Calls Tryz.prog 14 #[.slice A n c, .int .i64 kd, .int .i64 (N : Int)] w (CkGet w b kd (N : Int)) := by
  have HFX := Lib.hid hfx; have HB := Lib.hid hb
  unfold CkGet
  rcases hNS : nS b 1 none N with ⟨S, an, xn⟩
  have HNS := Lib.hid hNS
  rw [hNS] at hend
  simp only at hend
  have hncl := nC_le S N
  have hncd : nC S N = if rdE S (N : Int) = 0 then cnt (bit S) N else 0 := rfl
  have HNC := Lib.hid hncd
  obtain ⟨C, hC⟩ : ∃ C, nC S N = C := ⟨_, rfl⟩
  rw [hC] at hend hncl HNC
  obtain ⟨M, hM⟩ : ∃ M, N - C = M := ⟨_, rfl⟩
  rw [hM] at hend
  have hMi : (N : Int) - (C : Int) = (M : Int) := by omega
  rcases hO : oS b an xn kd (M : Int) with ⟨O, a2, x2⟩
  have HO := Lib.hid hO
  rw [hO] at hend
  obtain ⟨⟨he1, he2⟩, he3⟩ := hend
  simp only at he1 he2
  obtain ⟨R, hR⟩ : ∃ R, gtE b kd (N : Int) = R := ⟨_, rfl⟩
  rw [hR] at he1 he2 he3 ⊢
  have HV := Lib.hid (fun h : R ≠ 0 => gtV_no (b := b) (kd := kd) (k := (N : Int)) (by rw [hR]; exact h))
  obtain ⟨V, hV⟩ : ∃ V, gtV b kd (N : Int) = V := ⟨_, rfl⟩
  rw [hV] at he2 HV ⊢
  have HE1 := Lib.hid he1; have HE2 := Lib.hid he2; have HE3 := Lib.hid he3
  have hMl : M ≤ 65536 := by omega
  have hwM : IntKind.i64.wrap (M : Int) = (M : Int) := IntWalk.i64_in _ (by omega)
  clear hfx hb hO he1 he2 he3 hR hV hNS hC hncd hM hncl
  have HK := Lib.hid (isKind_any kd w)
  rw [isK_yes hk] at HK
  have d1 : decide ((N : Int) < 0) = false := by simp
  have d2 : decide ((65536 : Int) < (N : Int)) = false := by simp; omega
  go_enter Tryz.func14, Tryz.ntmps14
  go_wp2_with fail
  refine HK.out.mono ?_
  rintro e w' ⟨rfl, rfl⟩
  go_wp2_with fail
  refine (newReader_any A n c b w hr (by omega) HB.out).mono ?_
  rintro e w1 ⟨g, A1, c1, rfl, hg, hR1, hb1⟩
  have hS1 := rd_new hR1
  have hg1 := hS1.lt
  have hm1 := hmet.next hb1
  clear hR1
  go_wp2_with fail
  refine (New_any N w1 hN).mono ?_
  rintro e w2 ⟨gs, hs, rfl, hset, hb2⟩
  have hS2 := hS1.next hb2
  have hm2 := hm1.next hb2
  have hb02 := hb1.trans (hb2.mono hb1.size)
  have hf := nfix_is 1 hS2
  rw [HFX.out] at hf
  clear hS1 hm1 hb1
  go_wp2_with fail
  refine hf.mono ?_
  clear hf
  rintro e w3 ⟨rfl, hS3, hG3⟩
  have hR3 : Ro w2 w3 g b _ _ := ⟨hS3, hG3, hm2.rd2 hS2 hG3⟩
  have hgs := hset.bg
  have hhs := hset.bh
  have hset3 := hset.grown hG3 (fun e => by injection e with e; omega) (fun e => by injection e with e; omega)
  clear hS2 hm2 hS3 hG3 hset
  clear hset3
  go_wp2_with fail
  have hrn := readN_any N hR3.rd hN
  rw [HNS.out] at hrn
  refine hrn.mono ?_
  clear hrn
  rintro e w4 ⟨v4, rfl, hnoth, hS4, hG4⟩
  simp only at hnoth hS4 hG4
  have hR4 := hR3.take hS4 hG4
  have hz3 := hR3.gr.size
  have hz2 := hb2.size
  have hb04 := hb02.grown hR4.gr hb02.size (fun j hj => by injection hj with hj; omega)
  clear hS4 hG4 hR3 hb02
  rcases hnoth with ⟨hE0, g4, h4, rfl, hset4⟩ | ⟨hE0, rfl⟩
  · have HCC := Lib.hid (show C = cnt (bit S) N by rw [HNC.out, if_pos hE0])
    have hcc := Count_any hset4
    rw [← HCC.out] at hcc
    go_wp2_with fail
    refine hcc.mono ?_
    clear hcc
    rintro e w' ⟨rfl, rfl⟩
    go_wp2_with fail
    have hro := readO_any kd (M : Int) hR4.rd hk hR4.met
    rw [HO.out] at hro
    refine hro.mono ?_
    clear hro
    rintro e w5 ⟨v5, rfl, hown5, hR5⟩
    simp only at hown5 hR5
    obtain ⟨A5, c5, rfl, hc5, hcm5, _⟩ := own_slice hown5
    have hb05 := hb04.grown hR5.gr hb04.size (fun j hj => by injection hj with hj; omega)
    have hset5 := hset4.grown hR5.gr (fun e => by injection e with e; have := hset4.bg; omega) (fun e => by injection e with e; have := hset4.bh; omega)
    clear hset4 hR4 hb04
    have hcl := err_is hR5.met hR5.rd
    obtain ⟨on, hon⟩ : ∃ on : Int, ((errS x2).2 : Int) = on := ⟨_, rfl⟩
    rw [HE1.out, hon] at hcl
    have HCL := Lib.hid hcl
    clear hcl hon
    go_wp2_with fail
    refine HCL.out.mono ?_
    rintro e w7 ⟨he, hb7⟩
    have he' : e = .returned (.tuple #[.int .i64 R, .int .i64 on]) := he
    subst he'
    have hb07 := hb05.trans (hb7.mono hb05.size)
    by_cases hR0 : R = 0
    case neg =>
      have q : (R != 0) = true := by simp [hR0]
      go_wp2_with fail
      go_ret2
      rw [HV.out hR0]
      exact ⟨_, rfl, own_nil _ _ _ _, hb07⟩
    case pos =>
      subst hR0
      obtain ⟨hv, hol⟩ := HE2.out rfl
      have HVV := Lib.hid hv
      have hset7 := hset5.below hb7 (Nat.le_refl _)
      have hown7 := own_below hown5 hb7
      have r7 := Reads.of_own hown7
      have HTG := Lib.hid (together_any hset7 A5 O.length c5 O r7 hol hc5 hcm5)
      have HTL := Lib.hid (tog_length (bit S) O N)
      clear hset5 hown5 hown7 r7 hv hol hE0
      go_wp2_with fail
      refine HTG.out.mono ?_
      rintro e w8 ⟨v8, rfl, hown8, hb8⟩
      go_wp2_with fail
      go_ret2
      rw [HVV.out, HTL.out]
      exact ⟨_, rfl, own_base hown8 hb07.size, hb07.trans (hb8.mono hb07.size)⟩
  · have HCC := Lib.hid (show C = 0 by rw [HNC.out, if_neg hE0])
    have hcc := Count_nil w4
    rw [show (0 : Int) = ((0 : Nat) : Int) from rfl, ← HCC.out] at hcc
    go_wp2_with fail
    refine hcc.mono ?_
    clear hcc
    rintro e w' ⟨rfl, rfl⟩
    go_wp2_with fail
    have hro := readO_any kd (M : Int) hR4.rd hk hR4.met
    rw [HO.out] at hro
    refine hro.mono ?_
    clear hro
    rintro e w5 ⟨v5, rfl, hown5, hR5⟩
    simp only at hown5 hR5
    obtain ⟨A5, c5, rfl, hc5, hcm5, _⟩ := own_slice hown5
    have hb05 := hb04.grown hR5.gr hb04.size (fun j hj => by injection hj with hj; omega)
    have hR0 : R ≠ 0 := fun e => hE0 (HE3.out e)
    clear hR4 hb04 hE0
    have hcl := err_is hR5.met hR5.rd
    obtain ⟨on, hon⟩ : ∃ on : Int, ((errS x2).2 : Int) = on := ⟨_, rfl⟩
    rw [HE1.out, hon] at hcl
    have HCL := Lib.hid hcl
    clear hcl hon
    go_wp2_with fail
    refine HCL.out.mono ?_
    rintro e w7 ⟨he, hb7⟩
    have he' : e = .returned (.tuple #[.int .i64 R, .int .i64 on]) := he
    subst he'
    have q : (R != 0) = true := by simp [hR0]
    go_wp2_with fail
    go_ret2
    rw [HV.out hR0]
    exact ⟨_, rfl, own_nil _ _ _ _, hb05.trans (hb7.mono hb05.size)⟩
theorem fix_first (y : Nat) (r : List Nat) : fixS (y :: r) 0 none 1 = (y, 1, none) := fix_byte (y :: r) 0 y rfl
theorem fix_none : fixS [] 0 none 1 = (0, 0, some (2, 0)) := rfl
theorem getC : GetC := fun A n c kd k b w hr hb hn _ _ hmet => by
  by_cases h : (kd ≠ 1 ∧ kd ≠ 2) ∨ k < 0 ∨ 65536 < k
  · exact get_no A n c kd k b w h
  · obtain ⟨N, rfl⟩ : ∃ N : Nat, k = (N : Int) := ⟨k.toNat, by omega⟩
    have hk : kd = 1 ∨ kd = 2 := by omega
    have hN : N ≤ 65536 := by omega
    match b, hr, hb with
    | [], hr, hb => exact get_0 A n c N kd [] w hr hb hn hmet hk hN 0 (some (2, 0)) fix_none (ends_none _ hk hN _)
    | 0 :: r, hr, hb => exact get_0 A n c N kd (0 :: r) w hr hb hn hmet hk hN 1 none (fix_first 0 r) (ends_0 hk hN hb)
    | 1 :: r, hr, hb => exact get_1 A n c N kd (1 :: r) w hr hb hn hmet hk hN (fix_first 1 r) (ends_1 hk hN hb)
    | (y + 2) :: r, hr, hb => exact get_x A n c N kd ((y + 2) :: r) w hr hb hn hmet hk hN (y + 2) (by omega) (hb (y + 2) (by simp)) (fix_first (y + 2) r) (gt_bad hk hN (by unfold prs; simp only; rw [if_pos (by omega)]) (by decide))
end Go.Proofs.YthlfplljbbnaoaaGreatDoor
