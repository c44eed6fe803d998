import Derived.Test.YtpgdlmnhomnblaaGreatDoorJ17
import Derived.Deep.RegionWith
import Derived.Test.YtpgdlmnhomnblaaGreatDoorJ7
import Derived.Test.YtpgdlmnhomnblaaGreatDoorJ10
import Derived.Test.YtpgdlmnhomnblaaGreatDoorJ16
import Derived.StillTailTactics
import Derived.Test.YtpgdlmnhomnblaaGreatDoorJ1
import Derived.Test.YtpgdlmnhomnblaaGreatDoorJ4
import Derived.Test.YtpgdlmnhomnblaaGreatDoorJ3
import Derived.Test.YtpgdlmnhomnblaaGreatDoorJ9
import Derived.Test.YtpgdlmnhomnblaaGreatDoorJ5
import Derived.WalkKit
import Derived.Test.YtpgdlmnhomnblaaGreatDoorJ11
import Derived.Test.YtpgdlmnhomnblaaGreatDoorJ14
namespace Go.Proofs.YtpgdlmnhomnblaaGreatDoor
open Go.RowKit
set_option linter.unusedVariables false
set_option linter.unusedSimpArgs false
set_option maxRecDepth 100000
theorem tooLong_any (s : Tx) (w : World) :
    Calls Tryz.prog 138 #[.string ⟨s.toArray⟩] w fun e w' => e = .returned (.bool (decide (65536 < s.length))) ∧ w = w' := by
  have hz := size_enc s
  by_cases h : 65536 < s.length
  · have d1 : decide ((65536 : Int) < (s.length : Int)) = true := by simp; omega
    have d2 : decide (65536 < s.length) = true := by simp [h]
    rw [d2]
    go_enter Tryz.func138, Tryz.ntmps138
    go_wp2_with fail
    go_ret
    exact ⟨rfl, rfl⟩
  · have d1 : decide ((65536 : Int) < (s.length : Int)) = false := by simp; omega
    have d2 : decide (65536 < s.length) = false := by simp; omega
    rw [d2]
    go_enter Tryz.func138, Tryz.ntmps138
    go_wp2_with fail
    go_ret
    exact ⟨rfl, rfl⟩
def longI (l : List Tx) : Int := if l.all fun s => decide (s.length ≤ 65536) then -1 else ((l.findIdx fun s => decide (65536 < s.length) : Nat) : Int)
set_option maxHeartbeats 400000 in
theorem indexT_any (A : Option Addr) (n c : Nat) (l : List Tx) (w : World) (hr : Reads w w.heap.size 1 A n (ts l)) (hn : n ≤ 140737488355328) :
    Calls Tryz.prog 180 #[.slice A n c, .func (.func 138) #[] #[]] w fun e w' => e = .returned (.int .i64 (longI l)) ∧ w = w' := by
  have e1 : l.length = n := by have := hr.1; rw [ts_length] at this; omega
  have HE : Hid (l.length = n) := Lib.hid e1
  clear e1
  go_enter Tryz.func180, Tryz.ntmps180
  go_wp2_with fail
  go_loop [8] (fun i => ∃ k : Nat, k ≤ n ∧ i = .int .i64 (k : Int) ∧ Hid (∀ s ∈ l.take k, s.length ≤ 65536)) (fun i => n - (intOf i).toNat)
  case atStart => exact ⟨0, Nat.zero_le _, rfl, Lib.hid (by simp)⟩
  case round =>
    obtain ⟨k, hk, rfl, HA⟩ := hrel
    by_cases hlt : k < n
    · obtain ⟨ad, u, rfl, _, hu, hc⟩ := hr.at_ hlt
      obtain ⟨z, hz, rfl⟩ := ts_at hu
      have HC := tooLong_any z w
      by_cases hzl : 65536 < z.length
      · rw [show decide (65536 < z.length) = true by simp [hzl]] at HC
        have HC := Lib.hid HC
        have HR : Hid (longI l = (k : Int)) := Lib.hid (by
          have hkl : k < l.length := by rw [HE.out]; exact hlt
          have hzv : l[k] = z := (List.getElem?_eq_some_iff.1 hz).2
          unfold longI
          rw [if_neg (by
            intro h
            have := List.all_eq_true.1 h z (List.mem_of_getElem? hz)
            simp at this; omega)]
          have : (l.findIdx fun s => decide (65536 < s.length)) = k := by
            refine (List.findIdx_eq hkl).2 ⟨by rw [hzv]; simp [hzl], fun j hj => ?_⟩
            have := HA.out l[j] (List.mem_take_iff_getElem.2 ⟨j, by omega, rfl⟩)
            simp; omega
          rw [this])
        clear hu hz hzl
        go_wp2_with fail
        refine HC.out.mono ?_
        rintro e w' ⟨rfl, rfl⟩
        go_wp2_with fail
        go_ret
        exact ⟨by rw [HR.out]; rfl, rfl⟩
      · rw [show decide (65536 < z.length) = false by simp; omega] at HC
        have HC := Lib.hid HC
        have HA2 : Hid (∀ s ∈ l.take (k + 1), s.length ≤ 65536) := Lib.hid (by
          rw [take_snoc hz]
          intro s hs
          rcases List.mem_append.1 hs with hs | hs
          · exact HA.out s hs
          · rw [List.mem_singleton] at hs; subst hs; omega)
        clear hu hz hzl
        go_wp2_with fail
        refine HC.out.mono ?_
        rintro e w' ⟨rfl, rfl⟩
        go_wp2_with fail
        go_round
        case rel => exact ⟨k + 1, by omega, by go_num, HA2⟩
        case measure => simp [intOf]; omega
    · obtain rfl : k = n := by omega
      have HR : Hid (longI l = -1) := Lib.hid (by
        unfold longI
        rw [if_pos]
        rw [List.all_eq_true]
        intro s hs
        have := HA.out s (by rw [List.take_of_length_le (by rw [HE.out]; exact Nat.le_refl _)]; exact hs)
        simpa using this)
      go_wp2_with fail
      go_ret
      exact ⟨by rw [HR.out]; rfl, rfl⟩
theorem containsT_any (A : Option Addr) (n c : Nat) (l : List Tx) (w : World) (hr : Reads w w.heap.size 1 A n (ts l)) (hn : n ≤ 140737488355328) (q : Bool) (hq : q = !(l.all fun s => decide (s.length ≤ 65536))) :
    Calls Tryz.prog 139 #[.slice A n c, .func (.func 138) #[] #[]] w fun e w' => e = .returned (.bool q) ∧ w = w' := by
  have HC := Lib.hid (indexT_any A n c l w hr hn)
  cases h : l.all fun s => decide (s.length ≤ 65536) with
  | true =>
    have hq' : q = false := by rw [hq, h]; rfl
    have hl : longI l = -1 := by unfold longI; rw [if_pos h]
    rw [hl] at HC
    subst hq'
    clear hq h hl
    go_enter Tryz.func139, Tryz.ntmps139
    go_wp2_with fail
    refine HC.out.mono ?_
    rintro e w' ⟨rfl, rfl⟩
    go_wp2_with fail
    go_ret
    exact ⟨rfl, rfl⟩
  | false =>
    have hq' : q = true := by rw [hq, h]; rfl
    obtain ⟨m, hm⟩ : ∃ m : Nat, m = l.findIdx fun s => decide (65536 < s.length) := ⟨_, rfl⟩
    have hl : longI l = (m : Int) := by unfold longI; rw [if_neg (by rw [h]; simp), hm]
    rw [hl] at HC
    subst hq'
    clear hq h hl hm
    go_enter Tryz.func139, Tryz.ntmps139
    go_wp2_with fail
    refine HC.out.mono ?_
    rintro e w' ⟨rfl, rfl⟩
    go_wp2_with fail
    go_ret
    exact ⟨rfl, rfl⟩
theorem placeT_of (bc : Nat) (A : Option Addr) (n c : Nat) (L : List Tx) (s : Tx) (W : World) (hc : W.cell? ⟨bc, 0, none⟩ = some (.slice A n c)) (hr : Reads W W.heap.size 1 A n (ts L)) (hn : n ≤ 140737488355328) (hL : RiseT L) :
    Calls Tryz.prog 142 #[.string ⟨s.toArray⟩, .pointer (some ⟨bc, 0, none⟩)] W fun e W' => e = .returned (.int .u64 (whT L s : Int)) ∧ Below W.heap.size W W' := by
  have HP := Lib.hid (placeOf_any A n c L s W hr hn hL)
  clear hr hL
  go_enter Tryz.func142, Tryz.ntmps142
  go_wp2_with fail
  refine HP.out.mono ?_
  rintro e w' ⟨rfl, hb⟩
  go_wp2_with fail
  go_ret
  exact ⟨rfl, hb⟩
theorem txf_pcB (l : List Tx) : txf l = hdT (lstT l) ++ pcB (plcT l) := by unfold txf pcB; simp
set_option maxHeartbeats 1000000 in
theorem txPut_any (A : Option Addr) (n c : Nat) (l : List Tx) (w : World) (hr : Reads w w.heap.size 1 A n (ts l)) (hn : n ≤ 65536) (hq : ∀ s ∈ l, s.length ≤ 65536) :
    Calls Tryz.prog 86 #[.slice A n c] w (NewE w (txf l) 0) := by
  obtain ⟨i0, hi0, hz0, hz1, hz2⟩ := info_parts info_u8
  have e1 : l.length = n := by have := hr.1; rw [ts_length] at this; omega
  have hdp := txf_parts l (by omega) hq
  have hll := lstT_length l
  rw [e1] at hll
  have HPA := Lib.hid (fun a (ha : a ∈ plcT l) => (show a < 65536 by have := plcT_lt l a ha; omega))
  have HPL : Hid ((plcT l).length = n) := Lib.hid (by rw [plcT_length, e1])
  have HD := Lib.hid (txf_pcB l)
  have hpc : (pcB (plcT l)).length ≤ 131074 := by unfold pcB; rw [List.length_cons]; omega
  have HRI := Lib.hid (lstT_rise l)
  have HLQ := Lib.hid (lstT_long hq)
  have HMEM := Lib.hid (fun (k p : Nat) (x : Value) (h1 : (ts l)[k]? = some x) (h2 : (plcT l)[k]? = some p) => (show ∃ z, x = .string ⟨z.toArray⟩ ∧ p = whT (lstT l) z by
    obtain ⟨z, hz, rfl⟩ := ts_at h1
    refine ⟨z, rfl, ?_⟩
    unfold plcT at h2
    rw [List.getElem?_map, hz] at h2
    injection h2 with h2
    exact h2.symm))
  have HCT := Lib.hid (containsT_any A n c l w hr (by omega) false (by
    rw [show (l.all fun s => decide (s.length ≤ 65536)) = true by
      rw [List.all_eq_true]
      intro s hs
      have := hq s hs
      simpa using this]
    rfl))
  have d1 : decide ((65536 : Int) < (n : Int)) = false := by simp; omega
  have hmf' := hmfP
  have hla := listT_any A n c l w hr (by omega)
  obtain ⟨L, hL⟩ : ∃ L, L = lstT l := ⟨_, rfl⟩
  obtain ⟨P, hP⟩ : ∃ P, P = plcT l := ⟨_, rfl⟩
  rw [← hL] at hla hll HRI HLQ HD HMEM hdp
  rw [← hP] at HPA HPL HD hpc HMEM
  have HLA := Lib.hid hla
  have hr' := hr
  clear e1 hL hP hla hq hr
  go_enter Tryz.func86, Tryz.ntmps86
  go_wp2_with fail
  refine HCT.out.mono ?_
  rintro e w' ⟨rfl, rfl⟩
  go_wp2_with fail
  refine HLA.out.mono ?_
  intro e1 w1 hN1
  obtain ⟨A1, c1, rfl, _, _, r1, hb1⟩ := hN1.opened
  have hba : Below w1.heap.size w1 (w1.alloc (.cells #[.slice A1 L.length c1] 175)) := (Below.refl _ _).alloc (Nat.le_refl _) _
  obtain ⟨W, hW⟩ : ∃ W, W = w1.alloc (.cells #[.slice A1 L.length c1] 175) := ⟨_, rfl⟩
  have hWs : W.heap.size = w1.heap.size + 1 := by rw [hW]; simp
  have hcW : W.cell? ⟨w1.heap.size, 0, none⟩ = some (.slice A1 L.length c1) := by rw [hW]; simp
  rw [← hW] at hba
  have hbW := hb1.trans (hba.mono hb1.size)
  have r1W := r1.next hba
  have HP := Lib.hid (pcPutS_any A n c w1.heap.size (ts l) P W ((hr'.next hb1).next hba) HPL.out HPA.out hn fun k p x W' h1 h2 hb => by
    obtain ⟨z, rfl, rfl⟩ := HMEM.out k p x h1 h2
    exact placeT_of w1.heap.size A1 L.length c1 L z W' ((hb.cell (p := ⟨w1.heap.size, 0, none⟩) (by show w1.heap.size < _; omega)).trans hcW) (r1W.next hb) (by omega) HRI.out)
  have HW := Lib.hid hW
  clear hN1 HMEM hW hba HCT HLA
  go_wp2_with fail
  rw [← HW.out]
  refine HP.out.mono ?_
  intro e w2 hN2
  obtain ⟨A2, c2, rfl, _, r2, hb2⟩ := hN2.opened
  have hb02 := hbW.trans (hb2.mono hbW.size)
  have r12 := r1W.next hb2
  have hc2 : w2.cell? ⟨w1.heap.size, 0, none⟩ = some (.slice A1 L.length c1) := (hb2.cell (p := ⟨w1.heap.size, 0, none⟩) (by show w1.heap.size < _; omega)).trans hcW
  clear hN2 r1 r1W hb2 hcW
  go_wp2_with fail
  refine (putLT_any A1 L.length c1 L w2 r12 (by omega) HLQ.out).mono ?_
  rintro e w4 ⟨v4, rfl, hown4, hb4⟩
  have r24 := r2.next hb4
  have hb04 := hb02.trans (hb4.mono hb02.size)
  have h24 := hb4.size
  clear r12 r2 hb4
  go_wp2_with (at_builtin
               refine wpList_append_any _ rfl (.tmp 21) (.tmp 22) _ rfl w2.heap.size 5 i0 _ 1 1 Tryz.underlying66 hi0 hz0 hz1 hz2 rfl (by omega) v4 (hdT L).length (bs (hdT L)) rfl
                 hown4 w4.heap.size A2 (pcB P).length c2 (bs (pcB P)) rfl r24 (bs_one _) (by unfold maxLen; omega) (by omega) h24 ?_
               intro v5 w5 hown5 hg5 hat5)
  go_ret2
  rw [HD.out]
  rw [← bs_append, ← List.length_append] at hown5
  exact ⟨v5, rfl, own_base hown5 hb02.size, hb04.grown hg5 hb04.size (fun k hk => by have := (hown4.lt k hk).1; have := hb02.size; omega)⟩
end Go.Proofs.YtpgdlmnhomnblaaGreatDoor
namespace Go.Proofs.YtpgdlmnhomnblaaGreatDoor
open Go.RowKit
set_option linter.unusedVariables false
set_option linter.unusedSimpArgs false
set_option maxRecDepth 100000
set_option maxHeartbeats 1000000 in
theorem lit_fore (A : Option Addr) (n c g1 g2 : Nat) (o : List Vl) (w : World) (hr : Reads w w.heap.size 3 A n (vs o)) (hn : n ≤ 65536) (hi : ∀ z ∈ nums o, In64 z) (h1 : FnAt w g1 83) (h2 : FnAt w g2 75) :
    Calls Tryz.prog 106 #[.slice A n c, .pointer (some ⟨g1, 0, none⟩), .pointer (some ⟨g2, 0, none⟩)] w (NewE w (fo (nums o)) 0) := by
  have HF := Lib.hid fun (A1 : Option Addr) (c1 : Nat) (W : World) (r : Reads W W.heap.size 1 A1 n (zs (nums o))) => foPut_any A1 n c1 _ W r hi hn
  obtain ⟨B, hB⟩ : ∃ B, fo (nums o) = B := ⟨_, rfl⟩
  rw [hB] at HF ⊢
  have HF1 := Lib.hid h1
  have HE := Lib.hid (eachN_any A n c o w.drew hr.drew hn)
  have c1 : w.cell? ⟨g1, 0, none⟩ = some (.func (.func 83) #[] #[]) := h1
  have c2 : w.cell? ⟨g2, 0, none⟩ = some (.func (.func 75) #[] #[]) := h2
  clear h1 h2 hB
  go_enter Tryz.func106, Tryz.ntmps106
  go_wp2_with fail
  go_region_with (first
    | (go_at_call 107; refine HE.out.mono ?_; rintro e w1 ⟨v, rfl, hown, hb⟩; obtain ⟨A1, c1', rfl, _, _, r1⟩ := own_slice hown; have c11 : w1.cell? ⟨g1, 0, none⟩ = some (.func (.func 83) #[] #[]) := FnAt.below (w := w.drew) HF1.out hb)
    | (go_at_call 83; refine (HF.out _ _ _ r1).mono ?_; rintro e w2 ⟨v2, rfl, hown2, hb2⟩))
  all_goals
    go_wp2_with fail
    go_ret2
    exact ⟨_, rfl, own_base hown2 hb.size, (Drawn.one w 1).below (Below.refl w.heap.size w) |>.trans (hb.trans (hb2.mono hb.size))⟩
set_option maxHeartbeats 1000000 in
theorem lit_texts (A : Option Addr) (n c g1 g2 : Nat) (o : List Vl) (w : World) (hr : Reads w w.heap.size 3 A n (vs o)) (hn : n ≤ 65536) (hq : ∀ s ∈ txts o, s.length ≤ 65536) (h1 : FnAt w g1 86) (h2 : FnAt w g2 88) :
    Calls Tryz.prog 134 #[.slice A n c, .pointer (some ⟨g1, 0, none⟩), .pointer (some ⟨g2, 0, none⟩)] w (NewE w (txf (txts o)) 0) := by
  have HF := Lib.hid fun (A1 : Option Addr) (c1 : Nat) (W : World) (r : Reads W W.heap.size 1 A1 n (ts (txts o))) => txPut_any A1 n c1 _ W r hn hq
  obtain ⟨B, hB⟩ : ∃ B, txf (txts o) = B := ⟨_, rfl⟩
  rw [hB] at HF ⊢
  have HF1 := Lib.hid h1
  have HE := Lib.hid (eachT_any A n c o w.drew hr.drew hn)
  have c1 : w.cell? ⟨g1, 0, none⟩ = some (.func (.func 86) #[] #[]) := h1
  have c2 : w.cell? ⟨g2, 0, none⟩ = some (.func (.func 88) #[] #[]) := h2
  clear h1 h2 hB
  go_enter Tryz.func134, Tryz.ntmps134
  go_wp2_with fail
  go_region_with (first
    | (go_at_call 135; refine HE.out.mono ?_; rintro e w1 ⟨v, rfl, hown, hb⟩; obtain ⟨A1, c1', rfl, _, _, r1⟩ := own_slice hown; have c11 : w1.cell? ⟨g1, 0, none⟩ = some (.func (.func 86) #[] #[]) := FnAt.below (w := w.drew) HF1.out hb)
    | (go_at_call 86; refine (HF.out _ _ _ r1).mono ?_; rintro e w2 ⟨v2, rfl, hown2, hb2⟩))
  all_goals
    go_wp2_with fail
    go_ret2
    exact ⟨_, rfl, own_base hown2 hb.size, (Drawn.one w 1).below (Below.refl w.heap.size w) |>.trans (hb.trans (hb2.mono hb.size))⟩
end Go.Proofs.YtpgdlmnhomnblaaGreatDoor
namespace Go.Proofs.YtpgdlmnhomnblaaGreatDoor
open Go.RowKit
set_option linter.unusedVariables false
set_option linter.unusedSimpArgs false
set_option maxRecDepth 100000
def lookF : Nat → Nat → List Nat → Nat × Nat × Nat
  | _, _, [] => (0, 0, 2)
  | i, acc, b :: r => if (0 < i ∧ b = 0) ∨ (i = 9 ∧ 1 < b % 128) ∨ 9 < i then (0, 0, 4) else if b < 128 then (acc + b % 128 * 128 ^ i, i + 1, 0) else lookF (i + 1) (acc + b % 128 * 128 ^ i) r
end Go.Proofs.YtpgdlmnhomnblaaGreatDoor
namespace Go.Proofs.YtpgdlmnhomnblaaGreatDoor
open Go.RowKit
set_option linter.unusedVariables false
set_option linter.unusedSimpArgs false
set_option maxRecDepth 100000
end Go.Proofs.YtpgdlmnhomnblaaGreatDoor
namespace Go.Proofs.YtpgdlmnhomnblaaGreatDoor
open Go.RowKit
set_option linter.unusedVariables false
set_option linter.unusedSimpArgs false
set_option maxRecDepth 100000
end Go.Proofs.YtpgdlmnhomnblaaGreatDoor
namespace Go.Proofs.YtpgdlmnhomnblaaGreatDoor
open Go.RowKit
set_option linter.unusedVariables false
set_option linter.unusedSimpArgs false
set_option maxRecDepth 100000
end Go.Proofs.YtpgdlmnhomnblaaGreatDoor
namespace Go.Proofs.YtpgdlmnhomnblaaGreatDoor
open Go.RowKit
set_option linter.unusedVariables false
set_option linter.unusedSimpArgs false
set_option maxRecDepth 100000
def varS (l : List Nat) (at_ : Nat) (x : Option (Int × Nat)) : Nat × Nat × Option (Int × Nat) :=
  match x with
  | some x => (0, at_, some x)
  | none => if (lookF 0 0 (l.drop at_)).2.2 = 0 then ((lookF 0 0 (l.drop at_)).1, at_ + (lookF 0 0 (l.drop at_)).2.1, none) else (0, at_, some (((lookF 0 0 (l.drop at_)).2.2 : Int), at_))
end Go.Proofs.YtpgdlmnhomnblaaGreatDoor
namespace Go.Proofs.YtpgdlmnhomnblaaGreatDoor
open Go.RowKit
set_option linter.unusedVariables false
set_option linter.unusedSimpArgs false
set_option maxRecDepth 100000
def endS (l : List Nat) (at_ : Nat) (x : Option (Int × Nat)) : Int × Nat := if (errS x).1 = 0 ∧ at_ < l.length then (3, at_) else errS x
end Go.Proofs.YtpgdlmnhomnblaaGreatDoor
namespace Go.Proofs.YtpgdlmnhomnblaaGreatDoor
open Go.RowKit
set_option linter.unusedVariables false
set_option linter.unusedSimpArgs false
set_option maxRecDepth 100000
def vst (l : List Nat) : Nat → Nat × Option (Int × Nat)
  | 0 => (0, none)
  | k + 1 => (varS l (vst l k).1 (vst l k).2).2
def vv (l : List Nat) (k : Nat) : Nat := (varS l (vst l k).1 (vst l k).2).1
end Go.Proofs.YtpgdlmnhomnblaaGreatDoor
namespace Go.Proofs.YtpgdlmnhomnblaaGreatDoor
open Go.RowKit
set_option linter.unusedVariables false
set_option linter.unusedSimpArgs false
set_option maxRecDepth 100000
theorem RdS.store {w : World} {g h : Nat} {l : List Nat} {at_ : Nat} {x : Option (Int × Nat)} (hS : RdS w g l at_ x) {t : TypeId} {cs : Array Value} (hb : Blk w h t cs) (hg : g < h) (ht : t ≠ 226) (i : Nat) (u : Value) :
    RdS (w.setCell ⟨h, i, none⟩ u) g l at_ x := by
  obtain ⟨A, n, c, err, hR, hE⟩ := hS
  exact ⟨A, n, c, err, ⟨hR.blk.far (p := ⟨h, i, none⟩) (by show g ≠ h; omega) u, hR.reads.setCell (p := ⟨h, i, none⟩) (by show g ≤ h; omega) u, hR.cap, hR.place, hR.size, hR.byte⟩,
    hE.next fun f t' cs' hf ht' => hf.far (p := ⟨h, i, none⟩) (hf.type_ne hb (by rw [ht']; exact fun e => ht e.symm)) u⟩
theorem RdS.alloc {w : World} {g : Nat} {l : List Nat} {at_ : Nat} {x : Option (Int × Nat)} (hS : RdS w g l at_ x) (o : Obj) : RdS (w.alloc o) g l at_ x :=
  hS.next ((Below.refl _ _).alloc (Nat.le_refl _) _)
end Go.Proofs.YtpgdlmnhomnblaaGreatDoor
namespace Go.Proofs.YtpgdlmnhomnblaaGreatDoor
open Go.RowKit
set_option linter.unusedVariables false
set_option linter.unusedSimpArgs false
set_option maxRecDepth 100000
end Go.Proofs.YtpgdlmnhomnblaaGreatDoor
namespace Go.Proofs.YtpgdlmnhomnblaaGreatDoor
open Go.RowKit
set_option linter.unusedVariables false
set_option linter.unusedSimpArgs false
set_option maxRecDepth 100000
end Go.Proofs.YtpgdlmnhomnblaaGreatDoor
namespace Go.Proofs.YtpgdlmnhomnblaaGreatDoor
open Go.RowKit
set_option linter.unusedVariables false
set_option linter.unusedSimpArgs false
set_option maxRecDepth 100000
theorem good_snoc : ∀ (r : List (Int × Nat)) (x : Int) (m : Nat), Good (r ++ [(x, m)]) ↔ Good r ∧ 0 < m ∧ (r.getLast?.map Prod.fst ≠ some x)
  | [], x, m => by
    show (0 < m ∧ _ ∧ True) ↔ _
    simp [Good]
  | [(y, n)], x, m => by
    show (0 < n ∧ _ ∧ 0 < m ∧ _ ∧ True) ↔ _
    simp [Good]
    intro _
    constructor
    · rintro ⟨h2, h3⟩; exact ⟨h3, fun e => h2 e.symm⟩
    · rintro ⟨h2, h3⟩; exact ⟨fun e => h3 e.symm, h2⟩
  | (y, n) :: q :: r, x, m => by
    have ih := good_snoc (q :: r) x m
    rw [List.getLast?_cons_cons]
    show (0 < n ∧ ((((q :: r) ++ [(x, m)]).head?.map Prod.fst) ≠ some y) ∧ Good ((q :: r) ++ [(x, m)])) ↔ _
    rw [ih]
    rw [show ((q :: r) ++ [(x, m)]).head? = (q :: r).head? from rfl]
    show _ ↔ (0 < n ∧ _ ∧ Good (q :: r)) ∧ _
    constructor
    · rintro ⟨h1, h2, h3, h4, h5⟩; exact ⟨⟨h1, h2, h3⟩, h4, h5⟩
    · rintro ⟨⟨h1, h2, h3⟩, h4, h5⟩; exact ⟨h1, h2, h3, h4, h5⟩
theorem expd_one (x : Int) (m : Nat) : expd [(x, m)] = List.replicate m x := by simp [expd]
theorem runs_more {l : List Int} {r : List (Int × Nat)} {x : Int} {m : Nat} (h : runs l = r ++ [(x, m)]) : runs (l ++ [x]) = r ++ [(x, m + 1)] := by
  have hg := good_runs l
  rw [h, good_snoc] at hg
  have hl := expd_runs l
  rw [h, expd_append, expd_one] at hl
  have he : l ++ [x] = expd (r ++ [(x, m + 1)]) := by
    rw [expd_append, expd_one, List.replicate_succ', ← List.append_assoc, hl]
  rw [he]
  exact runs_expd _ ((good_snoc _ _ _).2 ⟨hg.1, by omega, hg.2.2⟩)
theorem runs_new {l : List Int} {x : Int} (h : (runs l).getLast?.map Prod.fst ≠ some x) : runs (l ++ [x]) = runs l ++ [(x, 1)] := by
  have he : l ++ [x] = expd (runs l ++ [(x, 1)]) := by
    rw [expd_append, expd_one, expd_runs]; rfl
  rw [he]
  exact runs_expd _ ((good_snoc _ _ _).2 ⟨good_runs l, by omega, h⟩)
def rv (r : List (Int × Nat)) : List Value := r.flatMap fun p => [Value.int .i64 p.1, Value.int .i64 (p.2 : Int)]
theorem rv_append (r s : List (Int × Nat)) : rv (r ++ s) = rv r ++ rv s := by simp [rv]
theorem rv_length : ∀ r : List (Int × Nat), (rv r).length = r.length * 2
  | [] => rfl
  | p :: r => by
    have := rv_length r
    show ([_, _] ++ rv r).length = _
    rw [List.length_append, this, List.length_cons]
    simp
    omega
theorem rv_at : ∀ {r : List (Int × Nat)} {k : Nat} {x : Int} {m : Nat}, r[k]? = some (x, m) → (rv r)[k * 2]? = some (.int .i64 x) ∧ (rv r)[k * 2 + 1]? = some (.int .i64 (m : Int))
  | p :: r, 0, x, m, h => by
    simp at h
    subst h
    exact ⟨rfl, rfl⟩
  | p :: r, k + 1, x, m, h => by
    have ih := rv_at (r := r) (k := k) (by simpa using h)
    rw [show (k + 1) * 2 = k * 2 + 2 by omega]
    exact ⟨by simpa [rv] using ih.1, by simpa [rv] using ih.2⟩
theorem rv_last (r : List (Int × Nat)) (x : Int) (m m' : Nat) : (rv (r ++ [(x, m)])).set (r.length * 2 + 1) (.int .i64 (m' : Int)) = rv (r ++ [(x, m')]) := by
  rw [rv_append, rv_append, List.set_append_right _ _ (by rw [rv_length]; omega), rv_length]
  congr 1
  rw [show r.length * 2 + 1 - r.length * 2 = 1 by omega]
  rfl
end Go.Proofs.YtpgdlmnhomnblaaGreatDoor
namespace Go.Proofs.YtpgdlmnhomnblaaGreatDoor
open Go.RowKit
set_option linter.unusedVariables false
set_option linter.unusedSimpArgs false
set_option maxRecDepth 100000
def how (b : List Nat) (k : Nat) : Nat := vv b (2 * k)
def num (b : List Nat) (k : Nat) : Int := zagI (vv b (2 * k + 1) : Int)
def rr (b : List Nat) (k : Nat) : List (Int × Nat) := (List.range k).map fun j => (num b j, how b j + 1)
def tot (b : List Nat) (k : Nat) : Nat := (expd (rr b k)).length
def ahdN (b : List Nat) (k : Nat) : Int := if k = 0 then 0 else num b (k - 1)
def rBad (b : List Nat) (N k : Nat) : Int :=
  match (vst b (2 * k + 2)).2 with
  | some y => y.1
  | none => if N - tot b k ≤ how b k then 5 else if 0 < k ∧ num b k = ahdN b k then 4 else 0
def rGo (b : List Nat) (N k : Nat) : Prop := tot b k < N ∧ rBad b N k = 0
instance (b : List Nat) (N k : Nat) : Decidable (rGo b N k) := by unfold rGo; exact inferInstance
def rStop (b : List Nat) (N : Nat) : Nat → Nat → Nat
  | 0, k => k
  | f + 1, k => if rGo b N k then rStop b N f (k + 1) else k
def rK (b : List Nat) (N : Nat) : Nat := rStop b N N 0
def rEnd (b : List Nat) (N : Nat) : Int := if tot b (rK b N) < N then rBad b N (rK b N) else (endS b (vst b (2 * rK b N)).1 none).1
def rE (b : List Nat) (k : Int) : Int := if k < 0 ∨ 65536 < k then 1 else rEnd b k.toNat
def rS (b : List Nat) (k : Int) : List Int := if rE b k = 0 then expd (rr b (rK b k.toNat)) else []
end Go.Proofs.YtpgdlmnhomnblaaGreatDoor
namespace Go.Proofs.YtpgdlmnhomnblaaGreatDoor
open Go.RowKit
set_option linter.unusedVariables false
set_option linter.unusedSimpArgs false
set_option maxRecDepth 100000
end Go.Proofs.YtpgdlmnhomnblaaGreatDoor
namespace Go.Proofs.YtpgdlmnhomnblaaGreatDoor
open Go.RowKit
set_option linter.unusedVariables false
set_option linter.unusedSimpArgs false
set_option maxRecDepth 100000
attribute [local go_sem] Oper.semAt_some wide_fn wide_depth
def ReadX (n₀ br bn : Nat) (k : Nat) : Prop := k < n₀ ∨ k = br ∨ k = bn
theorem keptX_cell {X : Nat → Prop} {a w : World} (h : ∀ k, X k → w.heap[k]? = a.heap[k]?) {p : Addr} (hp : X p.block) : w.cell? p = a.cell? p := World.cell?_of_block (h _ hp)
theorem RdS.leans {w w' : World} {g at_ : Nat} {l : List Nat} (h : RdS w g l at_ none) (hk : ∀ k, k ≤ g → w'.heap[k]? = w.heap[k]?) : RdS w' g l at_ none := by
  obtain ⟨A, n, c, err, hR, hE⟩ := h
  exact ⟨A, n, c, err, ⟨(hk g (Nat.le_refl _)).trans hR.blk, hR.reads.keep (fun p hp => World.cell?_of_block (hk _ (by omega))), hR.cap, hR.place, hR.size, hR.byte⟩, hE⟩
structure Mid (b : List Nat) (g br bn N : Nat) (J : Nat → World → Prop) (k : Nat) (W : World) (at_ : Nat) (x : Option (Int × Nat)) : Prop where
  rd : RdS W g b at_ x
  word : J k W
  rbox : Blk W br 149 #[.pointer (some ⟨g, 0, none⟩)]
  nbox : Blk W bn 3 #[.int .i64 (N : Int)]
  met : Met W
theorem Mid.cells {b : List Nat} {g br bn N k at_ : Nat} {J : Nat → World → Prop} {W : World} {x : Option (Int × Nat)} (h : Mid b g br bn N J k W at_ x) :
    W.cell? ⟨br, 0, none⟩ = some (.pointer (some ⟨g, 0, none⟩)) ∧ W.cell? ⟨bn, 0, none⟩ = some (.int .i64 (N : Int)) := by
  rw [h.rbox.cell, h.nbox.cell]; exact ⟨rfl, rfl⟩
theorem Mid.step {b : List Nat} {g br bn N k at_ at' : Nat} {J : Nat → World → Prop} {W W' : World} {x x' : Option (Int × Nat)} {X : Nat → Prop} (h : Mid b g br bn N J k W at_ x) (hJ : Abide X (fun j => j = g) J)
    (hr : RdS W' g b at' x') (hg : W.grownBy W' (some g)) (hbr : g < br) (hbn : g < bn) (hme : 1 < g) : Mid b g br bn N J k W' at' x' :=
  ⟨hr, hJ k W W' h.word ⟨some g, hg, fun r e => by injection e with e; exact e.symm⟩, h.rbox.grown hg (fun e => by injection e with e; omega), h.nbox.grown hg (fun e => by injection e with e; omega), hg.cell h.met (fun e => by injection e with e; simp at e; omega)⟩
theorem Mid.next {b : List Nat} {g br bn N k at_ : Nat} {J : Nat → World → Prop} {W W' : World} {x : Option (Int × Nat)} {X : Nat → Prop} (h : Mid b g br bn N J k W at_ x) (hJ : Abide X (fun j => j = g) J) (hb : Below W.heap.size W W') : Mid b g br bn N J k W' at_ x :=
  ⟨h.rd.next hb, hJ k W W' h.word ⟨none, only_below (World.grownBy.refl W _) hb, fun r e => by cases e⟩, h.rbox.below hb h.rbox.lt, h.nbox.below hb h.nbox.lt, h.met.next hb⟩
theorem Mid.yielded {b : List Nat} {g br bn n₀ N k k' at_ : Nat} {J : Nat → World → Prop} {W W' : World} (M : Mid b g br bn N J k W at_ none) (h : J k' W') (hX : ∀ i, ReadX n₀ br bn i → W'.heap[i]? = W.heap[i]?) (hg : g < n₀) (hme : 1 < g) :
    Mid b g br bn N J k' W' at_ none :=
  ⟨M.rd.leans (fun k hk => hX k (.inl (by omega))), h, (hX br (.inr (.inl rfl))).trans M.rbox, (hX bn (.inr (.inr rfl))).trans M.nbox, (keptX_cell hX (p := ⟨1, 0, none⟩) (.inl (by show 1 < n₀; omega))).trans M.met⟩
end Go.Proofs.YtpgdlmnhomnblaaGreatDoor
namespace Go.Proofs.YtpgdlmnhomnblaaGreatDoor
open Go.RowKit
set_option linter.unusedVariables false
set_option linter.unusedSimpArgs false
set_option maxRecDepth 100000
attribute [local go_sem] Oper.semAt_some wide_fn wide_depth
structure GetV (w : World) (h : Nat) (W0 : World) (v : Value) (xs : List Int) (W : World) : Prop where
  box : Blk W (h + 1) 142 #[v]
  own : W.ownsRow h 2 1 v xs.length (zs xs)
  blk : ∀ j, v.ownBlock = some j → j = h ∨ h + 4 ≤ j
  below : Below w.heap.size w W
  base : w.heap.size ≤ h
  size : h + 4 ≤ W.heap.size
  spares : Spares (h + 4) (ReadX h (h + 2) (h + 3)) W0 W
theorem RdS.kept {A B : World} {g at_ : Nat} {l : List Nat} {x : Option (Int × Nat)} {row : Option Nat} (h : RdS A g l at_ x) (hg : A.grownBy B row) (hr : ∀ r, row = some r → ∃ o : Obj, A.heap[r]? = some o ∧ o.isCells = false) : RdS B g l at_ x := by
  have hb : ∀ f t cs, Blk A f t cs → Blk B f t cs := fun f t cs hf => (grownBy_keeps_cells hg hr hf rfl).trans hf
  obtain ⟨Ad, n, c, err, hR, hE⟩ := h
  refine ⟨Ad, n, c, err, ⟨hb _ _ _ hR.blk, ⟨hR.reads.1, fun hn => ?_⟩, hR.cap, hR.place, hR.size, hR.byte⟩, hE.next fun f t cs hf _ => hb f t cs hf⟩
  obtain ⟨ad, e, hlt, hc⟩ := hR.reads.2 hn
  exact ⟨ad, e, hlt, fun j u hu => cell_kept (hc j u hu) hg hr⟩
theorem GetV.cells {w W0 W : World} {h : Nat} {v : Value} {xs : List Int} (s : GetV w h W0 v xs W) : W.cell? ⟨h + 1, 0, none⟩ = some v := by rw [s.box.cell]; rfl
theorem GetV.far {w W0 W : World} {h : Nat} {v : Value} {xs : List Int} (s : GetV w h W0 v xs W) : ∀ k, ReadX h (h + 2) (h + 3) k → k < W.heap.size := fun k hk => by have := s.size; rcases hk with hk | hk | hk <;> omega
theorem GetV.next {w W0 W W' : World} {h : Nat} {v : Value} {xs : List Int} (s : GetV w h W0 v xs W) (hb : Below W.heap.size W W') : GetV w h W0 v xs W' :=
  ⟨s.box.below hb s.box.lt, own_below s.own hb, s.blk, s.below.trans (hb.mono s.below.size), s.base, Nat.le_trans s.size hb.size, s.spares.below s.far hb⟩
theorem GetV.start {w W0 W : World} {h : Nat} {v : Value} {xs : List Int} (s : GetV w h W0 v xs W) : GetV w h W v xs W := ⟨s.box, s.own, s.blk, s.below, s.base, s.size, Spares.refl _ _ _⟩
theorem GetV.put {w W0 W W' : World} {h : Nat} {v v' : Value} {xs ys : List Int} (s : GetV w h W0 v xs W) (hown : W'.ownsRow h 2 1 v' (xs.length + ys.length) (zs xs ++ zs ys)) (hg : W.grownBy W' v.ownBlock)
    (hat : v'.ownBlock = v.ownBlock ∨ v'.ownBlock = some W.heap.size) : GetV w h W0 v' (xs ++ ys) (W'.setCell ⟨h + 1, 0, none⟩ v') := by
  have hset : W'.grownBy (W'.setCell ⟨h + 1, 0, none⟩ v') (some (h + 1)) := only_setCell (World.grownBy.refl W' _) (.inl rfl) _
  have hsz := s.size
  have hblk : ∀ j, v'.ownBlock = some j → j = h ∨ h + 4 ≤ j := fun j hj => by
    rcases hat with e | e
    · exact s.blk j (e ▸ hj)
    · rw [e] at hj
      injection hj with hj
      omega
  refine ⟨?_, ?_, hblk, ?_, s.base, ?_, ?_⟩
  · have := (s.box.grown hg (fun e => by have := s.blk _ e.symm; omega)).set_ 0 v'
    simpa using this
  · rw [← zs_append, ← List.length_append] at hown
    refine hown.kept hset ?_
    cases hv : v'.ownBlock with
    | none => exact .inl rfl
    | some j =>
      refine .inr fun e => ?_
      injection e with e
      have := hblk j hv
      omega
  · exact (s.below.grown hg s.below.size (fun k hk => by have := (s.own.lt k hk).1; have := s.base; omega)).setCell (p := ⟨h + 1, 0, none⟩) (by have := s.base; show w.heap.size ≤ h + 1; omega) _
  · exact Nat.le_trans (Nat.le_trans s.size hg.size) (by simp)
  · refine (s.spares.grown hg s.far (fun j hj => ?_)).setCell (p := ⟨h + 1, 0, none⟩) ?_ _
    · obtain ⟨h1, h2⟩ := own_cells s.own hj
      have h3 := s.blk j hj
      exact ⟨fun hk => by rcases hk with hk | hk | hk <;> omega, h2⟩
    · intro hk
      change h + 1 < h ∨ h + 1 = h + 2 ∨ h + 1 = h + 3 at hk
      omega
end Go.Proofs.YtpgdlmnhomnblaaGreatDoor
namespace Go.Proofs.YtpgdlmnhomnblaaGreatDoor
open Go.RowKit
set_option linter.unusedVariables false
set_option linter.unusedSimpArgs false
set_option maxRecDepth 100000
end Go.Proofs.YtpgdlmnhomnblaaGreatDoor
namespace Go.Proofs.YtpgdlmnhomnblaaGreatDoor
open Go.RowKit
set_option linter.unusedVariables false
set_option linter.unusedSimpArgs false
set_option maxRecDepth 100000
end Go.Proofs.YtpgdlmnhomnblaaGreatDoor
