/- Contract of package texts' Put: the form in new memory, or ErrLimit. -/
import Derived.Test.YtppeagjklndidaaGreatDoorJ12
import Derived.Test.YtppeagjklndidaaGreatDoorJ13
import Derived.Test.YtppeagjklndidaaGreatDoorJ14
import Derived.Test.YtppeagjklndidaaGreatDoorJ18
namespace Go.Proofs.YtppeagjklndidaaGreatDoor
open Go.RowKit
set_option linter.unusedVariables false
set_option linter.unusedSimpArgs false
set_option maxRecDepth 100000

theorem tooLong_any (s : Tx) (w : World) :
    Calls Tryz.prog 43 #[.string ⟨s.toArray⟩] w fun e w' => e = .returned (.bool (decide (65536 < s.length))) ∧ w = w' := by
  have hz := size_enc s
  by_cases h : 65536 < s.length
  · have d1 : decide ((65536 : Int) < (s.length : Int)) = true := by simp; omega
    have d2 : decide (65536 < s.length) = true := by simp [h]
    rw [d2]
    go_enter Tryz.func43, Tryz.ntmps43
    go_wp2_with fail
    go_ret
    exact ⟨rfl, rfl⟩
  · have d1 : decide ((65536 : Int) < (s.length : Int)) = false := by simp; omega
    have d2 : decide (65536 < s.length) = false := by simp; omega
    rw [d2]
    go_enter Tryz.func43, Tryz.ntmps43
    go_wp2_with fail
    go_ret
    exact ⟨rfl, rfl⟩
/-- The first text that is too long, or -1. -/
def longI (l : List Tx) : Int := if l.all fun s => decide (s.length ≤ 65536) then -1 else ((l.findIdx fun s => decide (65536 < s.length) : Nat) : Int)
set_option maxHeartbeats 400000 in
theorem indexT_any (A : Option Addr) (n c : Nat) (l : List Tx) (w : World) (hr : Reads w w.heap.size 1 A n (ts l)) (hn : n ≤ 140737488355328) :
    Calls Tryz.prog 68 #[.slice A n c, .func (.func 43) #[] #[]] w fun e w' => e = .returned (.int .i64 (longI l)) ∧ w = w' := by
  have e1 : l.length = n := by have := hr.1; rw [ts_length] at this; omega
  have HE : Hid (l.length = n) := Lib.hid e1
  clear e1
  go_enter Tryz.func68, Tryz.ntmps68
  go_wp2_with fail
  go_loop [8] (fun i => ∃ k : Nat, k ≤ n ∧ i = .int .i64 (k : Int) ∧ Hid (∀ s ∈ l.take k, s.length ≤ 65536)) (fun i => n - (intOf i).toNat)
  case atStart => exact ⟨0, Nat.zero_le _, rfl, Lib.hid (by simp)⟩
  case round =>
    obtain ⟨k, hk, rfl, HA⟩ := hrel
    by_cases hlt : k < n
    · obtain ⟨ad, u, rfl, _, hu, hc⟩ := hr.at_ hlt
      obtain ⟨z, hz, rfl⟩ := ts_at hu
      have HC := tooLong_any z w
      by_cases hzl : 65536 < z.length
      · rw [show decide (65536 < z.length) = true by simp [hzl]] at HC
        have HC := Lib.hid HC
        have HR : Hid (longI l = (k : Int)) := Lib.hid (by
          have hkl : k < l.length := by rw [HE.out]; exact hlt
          have hzv : l[k] = z := (List.getElem?_eq_some_iff.1 hz).2
          unfold longI
          rw [if_neg (by
            intro h
            have := List.all_eq_true.1 h z (List.mem_of_getElem? hz)
            simp at this; omega)]
          have : (l.findIdx fun s => decide (65536 < s.length)) = k := by
            refine (List.findIdx_eq hkl).2 ⟨by rw [hzv]; simp [hzl], fun j hj => ?_⟩
            have := HA.out l[j] (List.mem_take_iff_getElem.2 ⟨j, by omega, rfl⟩)
            simp; omega
          rw [this])
        clear hu hz hzl
        go_wp2_with fail
        refine HC.out.mono ?_
        rintro e w' ⟨rfl, rfl⟩
        go_wp2_with fail
        go_ret
        exact ⟨by rw [HR.out]; rfl, rfl⟩
      · rw [show decide (65536 < z.length) = false by simp; omega] at HC
        have HC := Lib.hid HC
        have HA2 : Hid (∀ s ∈ l.take (k + 1), s.length ≤ 65536) := Lib.hid (by
          rw [take_snoc hz]
          intro s hs
          rcases List.mem_append.1 hs with hs | hs
          · exact HA.out s hs
          · rw [List.mem_singleton] at hs; subst hs; omega)
        clear hu hz hzl
        go_wp2_with fail
        refine HC.out.mono ?_
        rintro e w' ⟨rfl, rfl⟩
        go_wp2_with fail
        go_round
        case rel => exact ⟨k + 1, by omega, by go_num, HA2⟩
        case measure => simp [intOf]; omega
    · obtain rfl : k = n := by omega
      have HR : Hid (longI l = -1) := Lib.hid (by
        unfold longI
        rw [if_pos]
        rw [List.all_eq_true]
        intro s hs
        have := HA.out s (by rw [List.take_of_length_le (by rw [HE.out]; exact Nat.le_refl _)]; exact hs)
        simpa using this)
      go_wp2_with fail
      go_ret
      exact ⟨by rw [HR.out]; rfl, rfl⟩
theorem containsT_any (A : Option Addr) (n c : Nat) (l : List Tx) (w : World) (hr : Reads w w.heap.size 1 A n (ts l)) (hn : n ≤ 140737488355328) (q : Bool) (hq : q = !(l.all fun s => decide (s.length ≤ 65536))) :
    Calls Tryz.prog 44 #[.slice A n c, .func (.func 43) #[] #[]] w fun e w' => e = .returned (.bool q) ∧ w = w' := by
  have HC := Lib.hid (indexT_any A n c l w hr hn)
  cases h : l.all fun s => decide (s.length ≤ 65536) with
  | true =>
    have hq' : q = false := by rw [hq, h]; rfl
    have hl : longI l = -1 := by unfold longI; rw [if_pos h]
    rw [hl] at HC
    subst hq'
    clear hq h hl
    go_enter Tryz.func44, Tryz.ntmps44
    go_wp2_with fail
    refine HC.out.mono ?_
    rintro e w' ⟨rfl, rfl⟩
    go_wp2_with fail
    go_ret
    exact ⟨rfl, rfl⟩
  | false =>
    have hq' : q = true := by rw [hq, h]; rfl
    obtain ⟨m, hm⟩ : ∃ m : Nat, m = l.findIdx fun s => decide (65536 < s.length) := ⟨_, rfl⟩
    have hl : longI l = (m : Int) := by unfold longI; rw [if_neg (by rw [h]; simp), hm]
    rw [hl] at HC
    subst hq'
    clear hq h hl hm
    go_enter Tryz.func44, Tryz.ntmps44
    go_wp2_with fail
    refine HC.out.mono ?_
    rintro e w' ⟨rfl, rfl⟩
    go_wp2_with fail
    go_ret
    exact ⟨rfl, rfl⟩
theorem txPut_no (A : Option Addr) (n c : Nat) (w : World) (hn : 65536 < n) :
    Calls Tryz.prog 23 #[.slice A n c] w (NewE w [] 12) := by
  go_enter Tryz.func23, Tryz.ntmps23
  go_wp2_with fail
  go_ret2
  exact ⟨.slice none 0 0, rfl, own_nil _ _ _ _, Below.refl _ _⟩
theorem txPut_long (A : Option Addr) (n c : Nat) (l : List Tx) (w : World) (hr : Reads w w.heap.size 1 A n (ts l)) (hn : n ≤ 140737488355328) (hl : ∃ s ∈ l, 65536 < s.length) :
    Calls Tryz.prog 23 #[.slice A n c] w (NewE w [] 12) := by
  by_cases h : 65536 < n
  · exact txPut_no A n c w h
  · have d1 : decide ((65536 : Int) < (n : Int)) = false := by simp; omega
    have HC := Lib.hid (containsT_any A n c l w hr hn true (by
      obtain ⟨s, hs, hsl⟩ := hl
      rw [show (l.all fun s => decide (s.length ≤ 65536)) = false by
        rw [List.all_eq_false]
        exact ⟨s, hs, by simp; omega⟩]
      rfl))
    clear hl
    go_enter Tryz.func23, Tryz.ntmps23
    go_wp2_with fail
    refine HC.out.mono ?_
    rintro e w' ⟨rfl, rfl⟩
    go_wp2_with fail
    go_ret2
    exact ⟨.slice none 0 0, rfl, own_nil _ _ _ _, Below.refl _ _⟩
/-- The place of a text that the literal tells. -/
theorem placeT_of (bc : Nat) (A : Option Addr) (n c : Nat) (L : List Tx) (s : Tx) (W : World) (hc : W.cell? ⟨bc, 0, none⟩ = some (.slice A n c)) (hr : Reads W W.heap.size 1 A n (ts L)) (hn : n ≤ 140737488355328) (hL : RiseT L) :
    Calls Tryz.prog 47 #[.string ⟨s.toArray⟩, .pointer (some ⟨bc, 0, none⟩)] W fun e W' => e = .returned (.int .u64 (whT L s : Int)) ∧ Below W.heap.size W W' := by
  have HP := Lib.hid (placeOf_any A n c L s W hr hn hL)
  clear hr hL
  go_enter Tryz.func47, Tryz.ntmps47
  go_wp2_with fail
  refine HP.out.mono ?_
  rintro e w' ⟨rfl, hb⟩
  go_wp2_with fail
  go_ret
  exact ⟨rfl, hb⟩
theorem txf_pcB (l : List Tx) : txf l = hdT (lstT l) ++ pcB (plcT l) := by unfold txf pcB; simp
set_option maxHeartbeats 1000000 in
theorem txPut_any (A : Option Addr) (n c : Nat) (l : List Tx) (w : World) (hr : Reads w w.heap.size 1 A n (ts l)) (hn : n ≤ 65536) (hq : ∀ s ∈ l, s.length ≤ 65536) :
    Calls Tryz.prog 23 #[.slice A n c] w (NewE w (txf l) 0) := by
  obtain ⟨i0, hi0, hz0, hz1, hz2⟩ := info_parts info_u8
  have e1 : l.length = n := by have := hr.1; rw [ts_length] at this; omega
  have hdp := txf_parts l (by omega) hq
  have hll := lstT_length l
  rw [e1] at hll
  have HPA := Lib.hid (fun a (ha : a ∈ plcT l) => (show a < 65536 by have := plcT_lt l a ha; omega))
  have HPL : Hid ((plcT l).length = n) := Lib.hid (by rw [plcT_length, e1])
  have HD := Lib.hid (txf_pcB l)
  have hpc : (pcB (plcT l)).length ≤ 131074 := by unfold pcB; rw [List.length_cons]; omega
  have HRI := Lib.hid (lstT_rise l)
  have HLQ := Lib.hid (lstT_long hq)
  have HMEM := Lib.hid (fun (k p : Nat) (x : Value) (h1 : (ts l)[k]? = some x) (h2 : (plcT l)[k]? = some p) => (show ∃ z, x = .string ⟨z.toArray⟩ ∧ p = whT (lstT l) z by
    obtain ⟨z, hz, rfl⟩ := ts_at h1
    refine ⟨z, rfl, ?_⟩
    unfold plcT at h2
    rw [List.getElem?_map, hz] at h2
    injection h2 with h2
    exact h2.symm))
  have HCT := Lib.hid (containsT_any A n c l w hr (by omega) false (by
    rw [show (l.all fun s => decide (s.length ≤ 65536)) = true by
      rw [List.all_eq_true]
      intro s hs
      have := hq s hs
      simpa using this]
    rfl))
  have d1 : decide ((65536 : Int) < (n : Int)) = false := by simp; omega
  have hmf' := hmfP
  have hla := listT_any A n c l w hr (by omega)
  obtain ⟨L, hL⟩ : ∃ L, L = lstT l := ⟨_, rfl⟩
  obtain ⟨P, hP⟩ : ∃ P, P = plcT l := ⟨_, rfl⟩
  rw [← hL] at hla hll HRI HLQ HD HMEM hdp
  rw [← hP] at HPA HPL HD hpc HMEM
  have HLA := Lib.hid hla
  have hr' := hr
  clear e1 hL hP hla hq hr
  go_enter Tryz.func23, Tryz.ntmps23
  go_wp2_with fail
  refine HCT.out.mono ?_
  rintro e w' ⟨rfl, rfl⟩
  go_wp2_with fail
  refine HLA.out.mono ?_
  intro e1 w1 hN1
  obtain ⟨A1, c1, rfl, _, _, r1, hb1⟩ := hN1.opened
  have hba : Below w1.heap.size w1 (w1.alloc (.cells #[.slice A1 L.length c1] 32)) := (Below.refl _ _).alloc (Nat.le_refl _) _
  obtain ⟨W, hW⟩ : ∃ W, W = w1.alloc (.cells #[.slice A1 L.length c1] 32) := ⟨_, rfl⟩
  have hWs : W.heap.size = w1.heap.size + 1 := by rw [hW]; simp
  have hcW : W.cell? ⟨w1.heap.size, 0, none⟩ = some (.slice A1 L.length c1) := by rw [hW]; simp
  rw [← hW] at hba
  have hbW := hb1.trans (hba.mono hb1.size)
  have r1W := r1.next hba
  have HP := Lib.hid (pcPutS_any A n c w1.heap.size (ts l) P W ((hr'.next hb1).next hba) HPL.out HPA.out hn fun k p x W' h1 h2 hb => by
    obtain ⟨z, rfl, rfl⟩ := HMEM.out k p x h1 h2
    exact placeT_of w1.heap.size A1 L.length c1 L z W' ((hb.cell (p := ⟨w1.heap.size, 0, none⟩) (by show w1.heap.size < _; omega)).trans hcW) (r1W.next hb) (by omega) HRI.out)
  have HW := Lib.hid hW
  clear hN1 HMEM hW hba HCT HLA
  go_wp2_with fail
  rw [← HW.out]
  refine HP.out.mono ?_
  intro e w2 hN2
  obtain ⟨A2, c2, rfl, _, r2, hb2⟩ := hN2.opened
  have hb02 := hbW.trans (hb2.mono hbW.size)
  have r12 := r1W.next hb2
  have hc2 : w2.cell? ⟨w1.heap.size, 0, none⟩ = some (.slice A1 L.length c1) := (hb2.cell (p := ⟨w1.heap.size, 0, none⟩) (by show w1.heap.size < _; omega)).trans hcW
  clear hN2 r1 r1W hb2 hcW
  go_wp2_with fail
  refine (putLT_any A1 L.length c1 L w2 r12 (by omega) HLQ.out).mono ?_
  rintro e w4 ⟨v4, rfl, hown4, hb4⟩
  have r24 := r2.next hb4
  have hb04 := hb02.trans (hb4.mono hb02.size)
  have h24 := hb4.size
  clear r12 r2 hb4
  go_wp2_with (at_builtin
               refine wpList_append_any _ rfl (.tmp 21) (.tmp 22) _ rfl w2.heap.size 5 i0 _ 1 1 Tryz.underlying22 hi0 hz0 hz1 hz2 rfl (by omega) v4 (hdT L).length (bs (hdT L)) rfl
                 hown4 w4.heap.size A2 (pcB P).length c2 (bs (pcB P)) rfl r24 (bs_one _) (by unfold maxLen; omega) (by omega) h24 ?_
               intro v5 w5 hown5 hg5 hat5)
  go_ret2
  rw [HD.out]
  rw [← bs_append, ← List.length_append] at hown5
  exact ⟨v5, rfl, own_base hown5 hb02.size, hb04.grown hg5 hb04.size (fun k hk => by have := (hown4.lt k hk).1; have := hb02.size; omega)⟩
end Go.Proofs.YtppeagjklndidaaGreatDoor
