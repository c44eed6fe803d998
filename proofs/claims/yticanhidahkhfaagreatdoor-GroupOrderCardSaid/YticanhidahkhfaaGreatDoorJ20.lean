import Derived.Test.YticanhidahkhfaaGreatDoorJ19
import Derived.Deep.RegionWith
import Derived.Test.YticanhidahkhfaaGreatDoorJ9
import Derived.Test.YticanhidahkhfaaGreatDoorJ12
import Derived.Test.YticanhidahkhfaaGreatDoorJ18
import Derived.StillTailTactics
import Derived.Test.YticanhidahkhfaaGreatDoorJ2
namespace Go.Proofs.YticanhidahkhfaaGreatDoor
open Go.RowKit
set_option linter.unusedVariables false
set_option linter.unusedSimpArgs false
set_option maxRecDepth 100000
theorem tooLong_any (s : Tx) (w : World) :
    Calls Tryz.prog 228 #[.string ⟨s.toArray⟩] w fun e w' => e = .returned (.bool (decide (65536 < s.length))) ∧ w = w' := by
  have hz := size_enc s
  by_cases h : 65536 < s.length
  · have d1 : decide ((65536 : Int) < (s.length : Int)) = true := by simp; omega
    have d2 : decide (65536 < s.length) = true := by simp [h]
    rw [d2]
    go_enter Tryz.func228, Tryz.ntmps228
    go_wp2_with fail
    go_ret
    exact ⟨rfl, rfl⟩
  · have d1 : decide ((65536 : Int) < (s.length : Int)) = false := by simp; omega
    have d2 : decide (65536 < s.length) = false := by simp; omega
    rw [d2]
    go_enter Tryz.func228, Tryz.ntmps228
    go_wp2_with fail
    go_ret
    exact ⟨rfl, rfl⟩
def longI (l : List Tx) : Int := if l.all fun s => decide (s.length ≤ 65536) then -1 else ((l.findIdx fun s => decide (65536 < s.length) : Nat) : Int)
set_option maxHeartbeats 400000 in
theorem indexT_any (A : Option Addr) (n c : Nat) (l : List Tx) (w : World) (hr : Reads w w.heap.size 1 A n (ts l)) (hn : n ≤ 140737488355328) :
    Calls Tryz.prog 269 #[.slice A n c, .func (.func 228) #[] #[]] w fun e w' => e = .returned (.int .i64 (longI l)) ∧ w = w' := by
  have e1 : l.length = n := by have := hr.1; rw [ts_length] at this; omega
  have HE : Hid (l.length = n) := Lib.hid e1
  clear e1
  go_enter Tryz.func269, Tryz.ntmps269
  go_wp2_with fail
  go_loop [8] (fun i => ∃ k : Nat, k ≤ n ∧ i = .int .i64 (k : Int) ∧ Hid (∀ s ∈ l.take k, s.length ≤ 65536)) (fun i => n - (intOf i).toNat)
  case atStart => exact ⟨0, Nat.zero_le _, rfl, Lib.hid (by simp)⟩
  case round =>
    obtain ⟨k, hk, rfl, HA⟩ := hrel
    by_cases hlt : k < n
    · obtain ⟨ad, u, rfl, _, hu, hc⟩ := hr.at_ hlt
      obtain ⟨z, hz, rfl⟩ := ts_at hu
      have HC := tooLong_any z w
      by_cases hzl : 65536 < z.length
      · rw [show decide (65536 < z.length) = true by simp [hzl]] at HC
        have HC := Lib.hid HC
        have HR : Hid (longI l = (k : Int)) := Lib.hid (by
          have hkl : k < l.length := by rw [HE.out]; exact hlt
          have hzv : l[k] = z := (List.getElem?_eq_some_iff.1 hz).2
          unfold longI
          rw [if_neg (by
            intro h
            have := List.all_eq_true.1 h z (List.mem_of_getElem? hz)
            simp at this; omega)]
          have : (l.findIdx fun s => decide (65536 < s.length)) = k := by
            refine (List.findIdx_eq hkl).2 ⟨by rw [hzv]; simp [hzl], fun j hj => ?_⟩
            have := HA.out l[j] (List.mem_take_iff_getElem.2 ⟨j, by omega, rfl⟩)
            simp; omega
          rw [this])
        clear hu hz hzl
        go_wp2_with fail
        refine HC.out.mono ?_
        rintro e w' ⟨rfl, rfl⟩
        go_wp2_with fail
        go_ret
        exact ⟨by rw [HR.out]; rfl, rfl⟩
      · rw [show decide (65536 < z.length) = false by simp; omega] at HC
        have HC := Lib.hid HC
        have HA2 : Hid (∀ s ∈ l.take (k + 1), s.length ≤ 65536) := Lib.hid (by
          rw [take_snoc hz]
          intro s hs
          rcases List.mem_append.1 hs with hs | hs
          · exact HA.out s hs
          · rw [List.mem_singleton] at hs; subst hs; omega)
        clear hu hz hzl
        go_wp2_with fail
        refine HC.out.mono ?_
        rintro e w' ⟨rfl, rfl⟩
        go_wp2_with fail
        go_round
        case rel => exact ⟨k + 1, by omega, by go_num, HA2⟩
        case measure => simp [intOf]; omega
    · obtain rfl : k = n := by omega
      have HR : Hid (longI l = -1) := Lib.hid (by
        unfold longI
        rw [if_pos]
        rw [List.all_eq_true]
        intro s hs
        have := HA.out s (by rw [List.take_of_length_le (by rw [HE.out]; exact Nat.le_refl _)]; exact hs)
        simpa using this)
      go_wp2_with fail
      go_ret
      exact ⟨by rw [HR.out]; rfl, rfl⟩
theorem containsT_any (A : Option Addr) (n c : Nat) (l : List Tx) (w : World) (hr : Reads w w.heap.size 1 A n (ts l)) (hn : n ≤ 140737488355328) (q : Bool) (hq : q = !(l.all fun s => decide (s.length ≤ 65536))) :
    Calls Tryz.prog 229 #[.slice A n c, .func (.func 228) #[] #[]] w fun e w' => e = .returned (.bool q) ∧ w = w' := by
  have HC := Lib.hid (indexT_any A n c l w hr hn)
  cases h : l.all fun s => decide (s.length ≤ 65536) with
  | true =>
    have hq' : q = false := by rw [hq, h]; rfl
    have hl : longI l = -1 := by unfold longI; rw [if_pos h]
    rw [hl] at HC
    subst hq'
    clear hq h hl
    go_enter Tryz.func229, Tryz.ntmps229
    go_wp2_with fail
    refine HC.out.mono ?_
    rintro e w' ⟨rfl, rfl⟩
    go_wp2_with fail
    go_ret
    exact ⟨rfl, rfl⟩
  | false =>
    have hq' : q = true := by rw [hq, h]; rfl
    obtain ⟨m, hm⟩ : ∃ m : Nat, m = l.findIdx fun s => decide (65536 < s.length) := ⟨_, rfl⟩
    have hl : longI l = (m : Int) := by unfold longI; rw [if_neg (by rw [h]; simp), hm]
    rw [hl] at HC
    subst hq'
    clear hq h hl hm
    go_enter Tryz.func229, Tryz.ntmps229
    go_wp2_with fail
    refine HC.out.mono ?_
    rintro e w' ⟨rfl, rfl⟩
    go_wp2_with fail
    go_ret
    exact ⟨rfl, rfl⟩
theorem txPut_no (A : Option Addr) (n c : Nat) (w : World) (hn : 65536 < n) :
    Calls Tryz.prog 164 #[.slice A n c] w (NewE w [] 12) := by
  go_enter Tryz.func164, Tryz.ntmps164
  go_wp2_with fail
  go_ret2
  exact ⟨.slice none 0 0, rfl, own_nil _ _ _ _, Below.refl _ _⟩
theorem txPut_long (A : Option Addr) (n c : Nat) (l : List Tx) (w : World) (hr : Reads w w.heap.size 1 A n (ts l)) (hn : n ≤ 140737488355328) (hl : ∃ s ∈ l, 65536 < s.length) :
    Calls Tryz.prog 164 #[.slice A n c] w (NewE w [] 12) := by
  by_cases h : 65536 < n
  · exact txPut_no A n c w h
  · have d1 : decide ((65536 : Int) < (n : Int)) = false := by simp; omega
    have HC := Lib.hid (containsT_any A n c l w hr hn true (by
      obtain ⟨s, hs, hsl⟩ := hl
      rw [show (l.all fun s => decide (s.length ≤ 65536)) = false by
        rw [List.all_eq_false]
        exact ⟨s, hs, by simp; omega⟩]
      rfl))
    clear hl
    go_enter Tryz.func164, Tryz.ntmps164
    go_wp2_with fail
    refine HC.out.mono ?_
    rintro e w' ⟨rfl, rfl⟩
    go_wp2_with fail
    go_ret2
    exact ⟨.slice none 0 0, rfl, own_nil _ _ _ _, Below.refl _ _⟩
theorem placeT_of (bc : Nat) (A : Option Addr) (n c : Nat) (L : List Tx) (s : Tx) (W : World) (hc : W.cell? ⟨bc, 0, none⟩ = some (.slice A n c)) (hr : Reads W W.heap.size 1 A n (ts L)) (hn : n ≤ 140737488355328) (hL : RiseT L) :
    Calls Tryz.prog 232 #[.string ⟨s.toArray⟩, .pointer (some ⟨bc, 0, none⟩)] W fun e W' => e = .returned (.int .u64 (whT L s : Int)) ∧ Below W.heap.size W W' := by
  have HP := Lib.hid (placeOf_any A n c L s W hr hn hL)
  clear hr hL
  go_enter Tryz.func232, Tryz.ntmps232
  go_wp2_with fail
  refine HP.out.mono ?_
  rintro e w' ⟨rfl, hb⟩
  go_wp2_with fail
  go_ret
  exact ⟨rfl, hb⟩
theorem txf_pcB (l : List Tx) : txf l = hdT (lstT l) ++ pcB (plcT l) := by unfold txf pcB; simp
set_option maxHeartbeats 1000000 in
theorem txPut_any (A : Option Addr) (n c : Nat) (l : List Tx) (w : World) (hr : Reads w w.heap.size 1 A n (ts l)) (hn : n ≤ 65536) (hq : ∀ s ∈ l, s.length ≤ 65536) :
    Calls Tryz.prog 164 #[.slice A n c] w (NewE w (txf l) 0) := by
  obtain ⟨i0, hi0, hz0, hz1, hz2⟩ := info_parts info_u8
  have e1 : l.length = n := by have := hr.1; rw [ts_length] at this; omega
  have hdp := txf_parts l (by omega) hq
  have hll := lstT_length l
  rw [e1] at hll
  have HPA := Lib.hid (fun a (ha : a ∈ plcT l) => (show a < 65536 by have := plcT_lt l a ha; omega))
  have HPL : Hid ((plcT l).length = n) := Lib.hid (by rw [plcT_length, e1])
  have HD := Lib.hid (txf_pcB l)
  have hpc : (pcB (plcT l)).length ≤ 131074 := by unfold pcB; rw [List.length_cons]; omega
  have HRI := Lib.hid (lstT_rise l)
  have HLQ := Lib.hid (lstT_long hq)
  have HMEM := Lib.hid (fun (k p : Nat) (x : Value) (h1 : (ts l)[k]? = some x) (h2 : (plcT l)[k]? = some p) => (show ∃ z, x = .string ⟨z.toArray⟩ ∧ p = whT (lstT l) z by
    obtain ⟨z, hz, rfl⟩ := ts_at h1
    refine ⟨z, rfl, ?_⟩
    unfold plcT at h2
    rw [List.getElem?_map, hz] at h2
    injection h2 with h2
    exact h2.symm))
  have HCT := Lib.hid (containsT_any A n c l w hr (by omega) false (by
    rw [show (l.all fun s => decide (s.length ≤ 65536)) = true by
      rw [List.all_eq_true]
      intro s hs
      have := hq s hs
      simpa using this]
    rfl))
  have d1 : decide ((65536 : Int) < (n : Int)) = false := by simp; omega
  have hmf' := hmfP
  have hla := listT_any A n c l w hr (by omega)
  obtain ⟨L, hL⟩ : ∃ L, L = lstT l := ⟨_, rfl⟩
  obtain ⟨P, hP⟩ : ∃ P, P = plcT l := ⟨_, rfl⟩
  rw [← hL] at hla hll HRI HLQ HD HMEM hdp
  rw [← hP] at HPA HPL HD hpc HMEM
  have HLA := Lib.hid hla
  have hr' := hr
  clear e1 hL hP hla hq hr
  go_enter Tryz.func164, Tryz.ntmps164
  go_wp2_with fail
  refine HCT.out.mono ?_
  rintro e w' ⟨rfl, rfl⟩
  go_wp2_with fail
  refine HLA.out.mono ?_
  intro e1 w1 hN1
  obtain ⟨A1, c1, rfl, _, _, r1, hb1⟩ := hN1.opened
  have hba : Below w1.heap.size w1 (w1.alloc (.cells #[.slice A1 L.length c1] 206)) := (Below.refl _ _).alloc (Nat.le_refl _) _
  obtain ⟨W, hW⟩ : ∃ W, W = w1.alloc (.cells #[.slice A1 L.length c1] 206) := ⟨_, rfl⟩
  have hWs : W.heap.size = w1.heap.size + 1 := by rw [hW]; simp
  have hcW : W.cell? ⟨w1.heap.size, 0, none⟩ = some (.slice A1 L.length c1) := by rw [hW]; simp
  rw [← hW] at hba
  have hbW := hb1.trans (hba.mono hb1.size)
  have r1W := r1.next hba
  have HP := Lib.hid (pcPutS_any A n c w1.heap.size (ts l) P W ((hr'.next hb1).next hba) HPL.out HPA.out hn fun k p x W' h1 h2 hb => by
    obtain ⟨z, rfl, rfl⟩ := HMEM.out k p x h1 h2
    exact placeT_of w1.heap.size A1 L.length c1 L z W' ((hb.cell (p := ⟨w1.heap.size, 0, none⟩) (by show w1.heap.size < _; omega)).trans hcW) (r1W.next hb) (by omega) HRI.out)
  have HW := Lib.hid hW
  clear hN1 HMEM hW hba HCT HLA
  go_wp2_with fail
  rw [← HW.out]
  refine HP.out.mono ?_
  intro e w2 hN2
  obtain ⟨A2, c2, rfl, _, r2, hb2⟩ := hN2.opened
  have hb02 := hbW.trans (hb2.mono hbW.size)
  have r12 := r1W.next hb2
  have hc2 : w2.cell? ⟨w1.heap.size, 0, none⟩ = some (.slice A1 L.length c1) := (hb2.cell (p := ⟨w1.heap.size, 0, none⟩) (by show w1.heap.size < _; omega)).trans hcW
  clear hN2 r1 r1W hb2 hcW
  go_wp2_with fail
  refine (putLT_any A1 L.length c1 L w2 r12 (by omega) HLQ.out).mono ?_
  rintro e w4 ⟨v4, rfl, hown4, hb4⟩
  have r24 := r2.next hb4
  have hb04 := hb02.trans (hb4.mono hb02.size)
  have h24 := hb4.size
  clear r12 r2 hb4
  go_wp2_with (at_builtin
               refine wpList_append_any _ rfl (.tmp 21) (.tmp 22) _ rfl w2.heap.size 5 i0 _ 1 1 Tryz.underlying48 hi0 hz0 hz1 hz2 rfl (by omega) v4 (hdT L).length (bs (hdT L)) rfl
                 hown4 w4.heap.size A2 (pcB P).length c2 (bs (pcB P)) rfl r24 (bs_one _) (by unfold maxLen; omega) (by omega) h24 ?_
               intro v5 w5 hown5 hg5 hat5)
  go_ret2
  rw [HD.out]
  rw [← bs_append, ← List.length_append] at hown5
  exact ⟨v5, rfl, own_base hown5 hb02.size, hb04.grown hg5 hb04.size (fun k hk => by have := (hown4.lt k hk).1; have := hb02.size; omega)⟩
end Go.Proofs.YticanhidahkhfaaGreatDoor
namespace Go.Proofs.YticanhidahkhfaaGreatDoor
open Go.RowKit
set_option linter.unusedVariables false
set_option linter.unusedSimpArgs false
set_option maxRecDepth 100000
set_option maxHeartbeats 1000000 in
theorem lit_fore (A : Option Addr) (n c g1 g2 : Nat) (o : List Vl) (w : World) (hr : Reads w w.heap.size 3 A n (vs o)) (hn : n ≤ 65536) (hi : ∀ z ∈ nums o, In64 z) (h1 : FnAt w g1 161) (h2 : FnAt w g2 153) :
    Calls Tryz.prog 201 #[.slice A n c, .pointer (some ⟨g1, 0, none⟩), .pointer (some ⟨g2, 0, none⟩)] w (NewE w (fo (nums o)) 0) := by
  have HF := Lib.hid fun (A1 : Option Addr) (c1 : Nat) (W : World) (r : Reads W W.heap.size 1 A1 n (zs (nums o))) => foPut_any A1 n c1 _ W r hi hn
  obtain ⟨B, hB⟩ : ∃ B, fo (nums o) = B := ⟨_, rfl⟩
  rw [hB] at HF ⊢
  have HF1 := Lib.hid h1
  have HE := Lib.hid (eachN_any A n c o w.drew hr.drew hn)
  have c1 : w.cell? ⟨g1, 0, none⟩ = some (.func (.func 161) #[] #[]) := h1
  have c2 : w.cell? ⟨g2, 0, none⟩ = some (.func (.func 153) #[] #[]) := h2
  clear h1 h2 hB
  go_enter Tryz.func201, Tryz.ntmps201
  go_wp2_with fail
  go_region_with (first
    | (go_at_call 202; refine HE.out.mono ?_; rintro e w1 ⟨v, rfl, hown, hb⟩; obtain ⟨A1, c1', rfl, _, _, r1⟩ := own_slice hown; have c11 : w1.cell? ⟨g1, 0, none⟩ = some (.func (.func 161) #[] #[]) := FnAt.below (w := w.drew) HF1.out hb)
    | (go_at_call 161; refine (HF.out _ _ _ r1).mono ?_; rintro e w2 ⟨v2, rfl, hown2, hb2⟩))
  all_goals
    go_wp2_with fail
    go_ret2
    exact ⟨_, rfl, own_base hown2 hb.size, (Drawn.one w 1).below (Below.refl w.heap.size w) |>.trans (hb.trans (hb2.mono hb.size))⟩
set_option maxHeartbeats 1000000 in
theorem lit_texts (A : Option Addr) (n c g1 g2 : Nat) (o : List Vl) (w : World) (hr : Reads w w.heap.size 3 A n (vs o)) (hn : n ≤ 65536) (hq : ∀ s ∈ txts o, s.length ≤ 65536) (h1 : FnAt w g1 164) (h2 : FnAt w g2 166) :
    Calls Tryz.prog 224 #[.slice A n c, .pointer (some ⟨g1, 0, none⟩), .pointer (some ⟨g2, 0, none⟩)] w (NewE w (txf (txts o)) 0) := by
  have HF := Lib.hid fun (A1 : Option Addr) (c1 : Nat) (W : World) (r : Reads W W.heap.size 1 A1 n (ts (txts o))) => txPut_any A1 n c1 _ W r hn hq
  obtain ⟨B, hB⟩ : ∃ B, txf (txts o) = B := ⟨_, rfl⟩
  rw [hB] at HF ⊢
  have HF1 := Lib.hid h1
  have HE := Lib.hid (eachT_any A n c o w.drew hr.drew hn)
  have c1 : w.cell? ⟨g1, 0, none⟩ = some (.func (.func 164) #[] #[]) := h1
  have c2 : w.cell? ⟨g2, 0, none⟩ = some (.func (.func 166) #[] #[]) := h2
  clear h1 h2 hB
  go_enter Tryz.func224, Tryz.ntmps224
  go_wp2_with fail
  go_region_with (first
    | (go_at_call 225; refine HE.out.mono ?_; rintro e w1 ⟨v, rfl, hown, hb⟩; obtain ⟨A1, c1', rfl, _, _, r1⟩ := own_slice hown; have c11 : w1.cell? ⟨g1, 0, none⟩ = some (.func (.func 164) #[] #[]) := FnAt.below (w := w.drew) HF1.out hb)
    | (go_at_call 164; refine (HF.out _ _ _ r1).mono ?_; rintro e w2 ⟨v2, rfl, hown2, hb2⟩))
  all_goals
    go_wp2_with fail
    go_ret2
    exact ⟨_, rfl, own_base hown2 hb.size, (Drawn.one w 1).below (Below.refl w.heap.size w) |>.trans (hb.trans (hb2.mono hb.size))⟩
end Go.Proofs.YticanhidahkhfaaGreatDoor
namespace Go.Proofs.YticanhidahkhfaaGreatDoor
open Go.RowKit
set_option linter.unusedVariables false
set_option linter.unusedSimpArgs false
set_option maxRecDepth 100000
def lookF : Nat → Nat → List Nat → Nat × Nat × Nat
  | _, _, [] => (0, 0, 2)
  | i, acc, b :: r => if (0 < i ∧ b = 0) ∨ (i = 9 ∧ 1 < b % 128) ∨ 9 < i then (0, 0, 4) else if b < 128 then (acc + b % 128 * 128 ^ i, i + 1, 0) else lookF (i + 1) (acc + b % 128 * 128 ^ i) r
theorem look_step {l : List Nat} {k acc b : Nat} (hb : l[k]? = some b) : lookF k acc (l.drop k) = if (0 < k ∧ b = 0) ∨ (k = 9 ∧ 1 < b % 128) ∨ 9 < k then (0, 0, 4) else if b < 128 then (acc + b % 128 * 128 ^ k, k + 1, 0) else lookF (k + 1) (acc + b % 128 * 128 ^ k) (l.drop (k + 1)) := by
  have hk : k < l.length := by
    rcases Nat.lt_or_ge k l.length with h | h
    · exact h
    · rw [List.getElem?_eq_none h] at hb; cases hb
  rw [List.getElem?_eq_getElem hk] at hb
  injection hb with hb
  rw [List.drop_eq_getElem_cons hk, hb]
  rfl
def look3 (e : Nat) : Value := if e = 0 then .nilIface else .iface 28 (.int .i64 (e : Int))
def lookV (r : Nat × Nat × Nat) : Value := .tuple #[.int .u64 (r.1 : Int), .int .i64 (r.2.1 : Int), look3 r.2.2]
theorem and127' : ∀ b : Fin 256, b.val &&& 127 = b.val % 128 := by decide +kernel
theorem and127 (b : Nat) (h : b < 256) : bits .and .u8 (b : Int) 127 = (b : Int) % 128 := by
  rw [show (127 : Int) = ((127 : Nat) : Int) from rfl, u8_and_nat _ _ h (by omega), and127' ⟨b, h⟩]; rfl
theorem pow7 (k : Nat) : 2 ^ (7 * k) = 128 ^ k := by rw [Nat.pow_mul]
theorem shl_bound (b k : Nat) (hk : k ≤ 9) (h9 : k = 9 → b % 128 ≤ 1) : b % 128 * 128 ^ k + 128 ^ k ≤ 18446744073709551616 := by
  have hb : b % 128 < 128 := Nat.mod_lt _ (by omega)
  have hk' : k = 0 ∨ k = 1 ∨ k = 2 ∨ k = 3 ∨ k = 4 ∨ k = 5 ∨ k = 6 ∨ k = 7 ∨ k = 8 ∨ k = 9 := by omega
  rcases hk' with rfl | rfl | rfl | rfl | rfl | rfl | rfl | rfl | rfl | rfl <;> simp only [Nat.reducePow] <;> first | omega | (have := h9 rfl; omega)
theorem or_shl (acc b k : Nat) (hk : k ≤ 9) (h9 : k = 9 → b % 128 ≤ 1) (hacc : acc < 128 ^ k) :
    bits .or .u64 (acc : Int) (IntKind.u64.wrap ((b : Int) % 128 * 2 ^ (7 * k))) = ((acc + b % 128 * 128 ^ k : Nat) : Int) := by
  have hb := shl_bound b k hk h9
  have e : ((b : Int) % 128 * 2 ^ (7 * k)) = ((b % 128 * 128 ^ k : Nat) : Int) := by
    rw [← pow7]; push_cast; rfl
  rw [e, IntKind.wrap_u64, show (((b % 128 * 128 ^ k : Nat) : Int) % 18446744073709551616) = ((b % 128 * 128 ^ k : Nat) : Int) by
    have := Int.emod_eq_of_lt (a := ((b % 128 * 128 ^ k : Nat) : Int)) (b := 18446744073709551616) (by omega) (by omega); exact this]
  rw [u64_or_nat _ _ (by omega) (by omega), Nat.or_comm, nat_join (7 * k) _ _ (by rw [pow7]; exact Nat.mul_mod_left _ _) (by rw [pow7]; exact hacc)]
  refine congrArg Nat.cast ?_
  omega
theorem acc_next (acc b k : Nat) (hacc : acc < 128 ^ k) : acc + b % 128 * 128 ^ k < 128 ^ (k + 1) := by
  have hb : b % 128 ≤ 127 := by have := Nat.mod_lt b (show 0 < 128 by omega); omega
  have : b % 128 * 128 ^ k ≤ 127 * 128 ^ k := Nat.mul_le_mul_right _ hb
  rw [Nat.pow_succ]; omega
set_option maxHeartbeats 4000000 in
theorem readVar_any {w : World} {B : Nat} {A : Option Addr} {n : Nat} {l : List Nat} (c : Nat) (hr : Reads w B 1 A n (bs l)) (hby : ∀ b ∈ l, b < 256) (hn : n ≤ 140737488355328) :
    Calls Tryz.prog 113 #[.slice A n c] w fun e w' => e = .returned (lookV (lookF 0 0 l)) ∧ w = w' := by
  have hl : l.length = n := by have := hr.1; rw [bs_length] at this; omega
  have Hl := Lib.hid hl
  clear hl
  go_enter Tryz.func113, Tryz.ntmps113
  go_wp2_with fail
  go_loop [2, 10] (fun v i => ∃ k acc : Nat, k ≤ n ∧ k ≤ 10 ∧ i = .int .i64 (k : Int) ∧ v = .int .u64 (acc : Int) ∧ Hid (acc < 128 ^ k) ∧ acc < 18446744073709551616 ∧ Hid (lookF 0 0 l = lookF k acc (l.drop k))) (fun _ i => n - (intOf i).toNat)
  case atStart => exact ⟨0, 0, by omega, by omega, rfl, rfl, Lib.hid (by omega), by omega, Lib.hid (by simp)⟩
  case round =>
    obtain ⟨k, acc, hk, hk10, rfl, rfl, hacc, hacc64, hpre⟩ := hrel
    by_cases hlt : k < n
    · obtain ⟨ad, u, rfl, _, hu, hc⟩ := hr.at_ hlt
      obtain ⟨b, hb, rfl⟩ := bs_at hu
      have hb256 := hby b (List.mem_of_getElem? hb)
      have hand := and127 b hb256
      have hstep := look_step (acc := acc) hb
      rw [← hpre.out] at hstep
      have HS := Lib.hid hstep
      have HBY := Lib.hid hby
      clear hb hu hby hstep
      by_cases hF : (0 < k ∧ b = 0) ∨ (k = 9 ∧ 1 < b % 128) ∨ 9 < k
      · have hv := HS.out
        rw [if_pos hF] at hv
        have HV := Lib.hid hv
        clear hv HS
        by_cases p1 : 0 < k ∧ b = 0
        · obtain ⟨q1, q2⟩ := p1
          have f1 : 0 < k := by omega
          have f2 : ((b : Int) == 0) = true := by simp; omega
          clear hF q2
          go_wp2_with fail
          go_ret3
          exact ⟨by rw [HV.out]; rfl, rfl⟩
        · by_cases p2 : k = 9 ∧ 1 < b % 128
          · obtain ⟨q1, q2⟩ := p2
            have f1 : 0 < k := by omega
            have f2 : ((b : Int) == 0) = false := by simp; omega
            have f3 : ((k : Int) == 9) = true := by simp; omega
            have f4 : decide ((1 : Int) < (b : Int) % 128) = true := by simp; omega
            clear hF p1 q1 q2
            go_wp2_with fail
            go_ret3
            exact ⟨by rw [HV.out]; rfl, rfl⟩
          · have f1 : 0 < k := by omega
            have f2 : ((b : Int) == 0) = false := by simp; omega
            have f3 : ((k : Int) == 9) = false := by simp; omega
            have f5 : ((k : Int) == 10) = true := by simp; omega
            clear hF p1 p2
            go_wp2_with fail
            go_ret3
            exact ⟨by rw [HV.out]; rfl, rfl⟩
      · have hk9 : k ≤ 9 := by omega
        have h91 : k = 9 → b % 128 ≤ 1 := fun h => by
          rcases Nat.lt_or_ge 1 (b % 128) with h1 | h1
          · exact absurd (.inr (.inl ⟨h, h1⟩)) hF
          · exact h1
        have hor := or_shl acc b k hk9 h91 hacc.out
        have hbd := shl_bound b k hk9 h91
        have hnx := acc_next acc b k hacc.out
        have hnew : acc + b % 128 * 128 ^ k < 18446744073709551616 := by have := hacc.out; omega
        have HN := Lib.hid hnx
        have HO := Lib.hid hor
        have HNW := Lib.hid hnew
        have hv := HS.out
        rw [if_neg hF] at hv
        have HV := Lib.hid hv
        clear hv HS hnx hor hnew hbd
        have fT : ((k : Int) == 10) = false := by simp; omega
        have f12 : (0 < k ∧ ((b : Int) == 0) = false) ∨ ¬ 0 < k := by
          rcases Nat.eq_zero_or_pos k with h0 | h0
          · exact .inr (by omega)
          · exact .inl ⟨h0, by simp; omega⟩
        have f34 : (((k : Int) == 9) = true ∧ decide ((1 : Int) < (b : Int) % 128) = false) ∨ ((k : Int) == 9) = false := by
          rcases Nat.lt_or_ge k 9 with h0 | h0
          · exact .inr (by simp; omega)
          · exact .inl ⟨by simp; omega, by have := h91 (by omega); simp; omega⟩
        have H91 := Lib.hid h91
        clear hF h91
        by_cases hlast : b < 128
        · have hv := HV.out
          rw [if_pos hlast] at hv
          have HV2 := Lib.hid hv
          clear HV hv
          rcases f12 with ⟨f1, f2⟩ | f1 <;> rcases f34 with ⟨f3, f4⟩ | f3
          all_goals
            go_wp2_with fail
            go_ret3
            refine ⟨?_, rfl⟩
            rw [HV2.out]
            exact ret_of (by
              show Value.tuple #[.int .u64 (bits .or .u64 (acc : Int) (IntKind.u64.wrap ((b : Int) % 128 * 2 ^ (7 * k)))), .int .i64 ((k : Int) + 1), .nilIface] = _
              rw [HO.out]; rfl)
        · have hv := HV.out
          rw [if_neg hlast] at hv
          have HV2 := Lib.hid hv
          clear HV hv
          rcases f12 with ⟨f1, f2⟩ | f1 <;> rcases f34 with ⟨f3, f4⟩ | f3
          all_goals
            go_wp2_with fail
            refine ⟨⟨k + 1, acc + b % 128 * 128 ^ k, by omega, by omega, by go_num, ?_, HN, HNW.out, HV2⟩, by simp [intOf]; omega⟩
            rw [HO.out]
    · go_wp2_with fail
      go_ret3
      refine ⟨?_, rfl⟩
      have hl := Hl.out
      rw [hpre.out, List.drop_eq_nil_of_le (by omega)]
      rfl
end Go.Proofs.YticanhidahkhfaaGreatDoor
namespace Go.Proofs.YticanhidahkhfaaGreatDoor
open Go.RowKit
set_option linter.unusedVariables false
set_option linter.unusedSimpArgs false
set_option maxRecDepth 100000
theorem look_canon (l : List Nat) : ∀ i acc v m, (∀ b ∈ l, b < 256) → lookF i acc l = (v, m, 0) → ∃ u, v = acc + u * 128 ^ i ∧ i ≤ 9 ∧ (0 < i → u ≠ 0) ∧ l.take (m - i) = vbF (9 - i) u ∧ i < m ∧ u * 128 ^ i + 128 ^ i ≤ 18446744073709551616 := by
  induction l with
  | nil => intro i acc v m _ h; simp [lookF] at h
  | cons b r ih =>
    intro i acc v m hb h
    have hb0 := hb b (by simp)
    unfold lookF at h
    by_cases hF : (0 < i ∧ b = 0) ∨ (i = 9 ∧ 1 < b % 128) ∨ 9 < i
    · rw [if_pos hF] at h; simp at h
    · rw [if_neg hF] at h
      have h9 : i ≤ 9 := by omega
      have h91 : i = 9 → b % 128 ≤ 1 := fun e => by omega
      by_cases h1 : b < 128
      · rw [if_pos h1] at h
        simp only [Prod.mk.injEq, and_true] at h
        obtain ⟨rfl, rfl⟩ := h
        have hm := Nat.mod_eq_of_lt h1
        have hs := shl_bound b i h9 h91
        rw [hm] at hs ⊢
        refine ⟨b, rfl, h9, fun h0 e => hF (.inl ⟨h0, e⟩), ?_, by omega, hs⟩
        rw [show i + 1 - i = 1 by omega]
        rcases Nat.lt_or_ge i 9 with h8 | h8
        · rw [show 9 - i = (8 - i) + 1 by omega, vbF_step, if_pos h1]; rfl
        · rw [show 9 - i = 0 by omega]; rfl
      · rw [if_neg h1] at h
        obtain ⟨u, e1, e2, e3, e4, e5, e6⟩ := ih (i + 1) _ v m (fun x hx => hb x (by simp [hx])) h
        have hu := e3 (by omega)
        rw [Nat.pow_succ] at e1 e6
        generalize 128 ^ i = P at e1 e6 ⊢
        have e7 : (b % 128 + 128 * u) * P = b % 128 * P + u * (P * 128) := by
          rw [Nat.add_mul, Nat.mul_comm 128 u, Nat.mul_assoc, Nat.mul_comm 128 P]
        have e8 : b % 128 * P + P ≤ P * 128 := by
          have : (b % 128 + 1) * P ≤ 128 * P := Nat.mul_le_mul_right _ (by omega)
          rw [Nat.add_mul, Nat.one_mul] at this; omega
        refine ⟨b % 128 + 128 * u, by rw [e7]; omega, h9, fun _ => by omega, ?_, by omega, by rw [e7]; omega⟩
        rw [show m - i = (m - (i + 1)) + 1 by omega, List.take_succ_cons, e4, show 9 - i = (9 - (i + 1)) + 1 by omega, vbF_step, if_neg (by omega)]
        congr 1
        · omega
        · congr 1; omega
theorem look_is {l : List Nat} {v m : Nat} (hb : ∀ b ∈ l, b < 256) (h : lookF 0 0 l = (v, m, 0)) : l.take m = vb v ∧ v < 18446744073709551616 := by
  obtain ⟨u, e1, _, _, e4, _, e6⟩ := look_canon l 0 0 v m hb h
  simp only [Nat.pow_zero, Nat.mul_one, Nat.zero_add] at e1 e6
  subst e1
  exact ⟨e4, by omega⟩
end Go.Proofs.YticanhidahkhfaaGreatDoor
namespace Go.Proofs.YticanhidahkhfaaGreatDoor
open Go.RowKit
set_option linter.unusedVariables false
set_option linter.unusedSimpArgs false
set_option maxRecDepth 100000
theorem look_vbF (f : Nat) : ∀ v i acc (r : List Nat), i + f = 9 → v * 128 ^ i < 18446744073709551616 → (i = 0 ∨ v ≠ 0) → lookF i acc (vbF f v ++ r) = (acc + v * 128 ^ i, i + (vbF f v).length, 0) := by
  induction f with
  | zero =>
    intro v i acc r hi hv h0
    obtain rfl : i = 9 := by omega
    have hv1 : v = 1 := by
      have : (128 : Nat) ^ 9 = 9223372036854775808 := by decide
      rw [this] at hv; omega
    subst hv1
    show lookF 9 acc (1 :: r) = _
    unfold lookF
    simp [vbF]
  | succ f ih =>
    intro v i acc r hi hv h0
    rw [vbF_step]
    by_cases h : v < 128
    · rw [if_pos h]
      show lookF i acc (v :: r) = _
      unfold lookF
      rw [if_neg (by omega), if_pos h, Nat.mod_eq_of_lt h]
      rfl
    · rw [if_neg h]
      show lookF i acc ((128 + v % 128) :: (vbF f (v / 128) ++ r)) = _
      unfold lookF
      have e : (128 + v % 128) % 128 = v % 128 := by omega
      have hp : v * 128 ^ i = v % 128 * 128 ^ i + v / 128 * 128 ^ (i + 1) := by
        rw [Nat.pow_succ, Nat.mul_comm (128 ^ i) 128, ← Nat.mul_assoc, ← Nat.add_mul]
        congr 1; omega
      rw [if_neg (by omega), if_neg (by omega), e, ih (v / 128) (i + 1) _ r (by omega) (by omega) (by omega)]
      simp only [List.length_cons, Prod.mk.injEq, and_true]
      omega
theorem look_vb (v : Nat) (hv : v < 18446744073709551616) (r : List Nat) : lookF 0 0 (vb v ++ r) = (v, (vb v).length, 0) := by
  have := look_vbF 9 v 0 0 r (by omega) (by omega) (.inl rfl)
  simpa [vb] using this
end Go.Proofs.YticanhidahkhfaaGreatDoor
namespace Go.Proofs.YticanhidahkhfaaGreatDoor
open Go.RowKit
set_option linter.unusedVariables false
set_option linter.unusedSimpArgs false
set_option maxRecDepth 100000
theorem short_pre (f : Nat) : ∀ v i acc j, i + f ≤ 9 → j < (vbF f v).length → lookF i acc ((vbF f v).take j) = (0, 0, 2) := by
  induction f with
  | zero => intro v i acc j hi hj; simp [vbF] at hj; subst hj; simp [lookF]
  | succ f ih =>
    intro v i acc j hi hj
    rw [vbF_step] at hj ⊢
    by_cases h : v < 128
    · rw [if_pos h] at hj; simp at hj; subst hj; simp [lookF]
    · rw [if_neg h] at hj ⊢
      cases j with
      | zero => simp [lookF]
      | succ j =>
        simp only [List.length_cons] at hj
        rw [List.take_succ_cons]
        unfold lookF
        rw [if_neg (by omega), if_neg (by omega)]
        exact ih _ _ _ _ (by omega) (by omega)
theorem short_vb (v j : Nat) (hj : j < (vb v).length) : lookF 0 0 ((vb v).take j) = (0, 0, 2) := short_pre 9 v 0 0 j (by omega) hj
theorem rd_new {w : World} {g : Nat} {A : Option Addr} {n c : Nat} {l : List Nat} (h : Rd w g A n c 0 .nilIface l) : RdS w g l 0 none := ⟨A, n, c, _, h, rfl⟩
end Go.Proofs.YticanhidahkhfaaGreatDoor
namespace Go.Proofs.YticanhidahkhfaaGreatDoor
open Go.RowKit
set_option linter.unusedVariables false
set_option linter.unusedSimpArgs false
set_option maxRecDepth 100000
theorem look_len (l : List Nat) : ∀ i acc, (lookF i acc l).2.2 = 0 → (lookF i acc l).2.1 ≤ i + l.length ∧ i < (lookF i acc l).2.1 := by
  induction l with
  | nil => intro i acc h; simp [lookF] at h
  | cons b r ih =>
    intro i acc h
    unfold lookF at h ⊢
    split at h
    · simp at h
    · rename_i h1
      rw [if_neg h1]
      split at h
      · rename_i h2; rw [if_pos h2]; simp
      · rename_i h2
        rw [if_neg h2]
        have := ih _ _ h
        simp only [List.length_cons]
        omega
def varS (l : List Nat) (at_ : Nat) (x : Option (Int × Nat)) : Nat × Nat × Option (Int × Nat) :=
  match x with
  | some x => (0, at_, some x)
  | none => if (lookF 0 0 (l.drop at_)).2.2 = 0 then ((lookF 0 0 (l.drop at_)).1, at_ + (lookF 0 0 (l.drop at_)).2.1, none) else (0, at_, some (((lookF 0 0 (l.drop at_)).2.2 : Int), at_))
theorem var_nil (w : World) : Calls Tryz.prog 62 #[.pointer none] w fun e w' => e = .returned (.int .u64 0) ∧ w = w' := by
  go_enter Tryz.func62, Tryz.ntmps62
  go_wp2_with (go_at_call 112; refine (stopped_nil _).mono ?_; rintro e w1 ⟨rfl, rfl⟩)
  go_ret
  exact ⟨rfl, rfl⟩
set_option maxHeartbeats 1000000 in
theorem var_is {w : World} {g : Nat} {l : List Nat} {at_ : Nat} {x : Option (Int × Nat)} (h : RdS w g l at_ x) :
    Calls Tryz.prog 62 #[.pointer (some ⟨g, 0, none⟩)] w
      fun e w' => e = .returned (.int .u64 ((varS l at_ x).1 : Int)) ∧ RdTo w g l (varS l at_ x).2.1 (varS l at_ x).2.2 w' := by
  cases x with
  | some x =>
    go_enter Tryz.func62, Tryz.ntmps62
    go_wp2_with (go_at_call 112; refine (stopped_err h).mono ?_; rintro e w1 ⟨rfl, rfl⟩)
    go_ret
    exact ⟨rfl, RdTo.same h (Drawn.refl w)⟩
  | none =>
    obtain ⟨A, n, c, err, hR, rfl⟩ := h
    have hc0 := hR.blk.cell 0
    have hc := hR.blk.cell 1
    simp only [List.getElem?_toArray, List.getElem?_cons_succ, List.getElem?_cons_zero] at hc hc0
    have hz := hR.size
    have hp := hR.place
    have hcap := hR.cap
    have hf := hR.blk.frozen 1
    have hlt := hR.blk.lt
    have hcut : Reads w g 1 (if c = at_ then A else Option.map (fun x => x.add at_) A) (n - at_) (bs (l.drop at_)) := by
      have := hR.reads.cut hp hcap
      simpa [bs_drop] using this
    have hby : ∀ b ∈ l.drop at_, b < 256 := fun b hb => hR.byte b (List.mem_of_mem_drop hb)
    have hrv := fun (W : World) (hW : Reads W g 1 (if c = at_ then A else Option.map (fun x => x.add at_) A) (n - at_) (bs (l.drop at_))) => readVar_any (c - at_) hW hby (by omega)
    have hlen := look_len (l.drop at_) 0 0
    have hln := hR.length
    rw [List.length_drop] at hlen
    have hVS : varS l at_ none = if (lookF 0 0 (l.drop at_)).2.2 = 0 then ((lookF 0 0 (l.drop at_)).1, at_ + (lookF 0 0 (l.drop at_)).2.1, none) else (0, at_, some (((lookF 0 0 (l.drop at_)).2.2 : Int), at_)) := rfl
    rw [hVS]
    rcases hlk : lookF 0 0 (l.drop at_) with ⟨v, m, e⟩
    rw [hlk] at hlen hrv
    by_cases he : e = 0
    · subst he
      have hlen2 : m ≤ 0 + (l.length - at_) ∧ 0 < m := hlen rfl
      have hm : at_ + m ≤ n := by omega
      clear hlen2
      simp only [if_true]
      have hrv2 : ∀ W : World, Reads W g 1 (if c = at_ then A else Option.map (fun x => x.add at_) A) (n - at_) (bs (l.drop at_)) → Calls Tryz.prog 113 #[.slice (if c = at_ then A else Option.map (fun x => x.add at_) A) (n - at_) (c - at_)] W (fun ev w' => ev = Ending.returned (Value.tuple #[.int .u64 (v : Int), .int .i64 (m : Int), .nilIface]) ∧ W = w') :=
        fun W hW => (hrv W hW).mono fun ev w' ⟨h1, h2⟩ => ⟨h1, h2⟩
      have HRV := Lib.hid hrv2
      clear hrv hrv2 hlen hlk hVS hln hby
      go_enter Tryz.func62, Tryz.ntmps62
      go_wp2_with (go_at_call 112; refine (stopped_ok hR).mono ?_; rintro e w1 ⟨rfl, rfl⟩)
      go_quiet ((go_at_call 113; first | exact quiet_same0 (HRV.out _ (hcut.drewN _)) | exact quiet_same (HRV.out _ (hcut.drewN _))))
      go_wp2_with fail
      all_goals
        go_ret
        exact ⟨rfl, RdS.goes hR (x := none) rfl m hm ((Drawn.one w _).below (Below.refl _ _))⟩
    · rw [if_neg he]
      have hrv2 : ∀ W : World, Reads W g 1 (if c = at_ then A else Option.map (fun x => x.add at_) A) (n - at_) (bs (l.drop at_)) → Calls Tryz.prog 113 #[.slice (if c = at_ then A else Option.map (fun x => x.add at_) A) (n - at_) (c - at_)] W (fun ev w' => ev = Ending.returned (Value.tuple #[.int .u64 (v : Int), .int .i64 (m : Int), .iface 28 (.int .i64 (e : Int))]) ∧ W = w') :=
        fun W hW => (hrv W hW).mono fun ev w' ⟨h1, h2⟩ => ⟨by rw [h1]; simp [lookV, look3, he], h2⟩
      have HRV := Lib.hid hrv2
      clear hrv hrv2 hlen hlk hVS hln hby
      go_enter Tryz.func62, Tryz.ntmps62
      go_wp2_with (go_at_call 112; refine (stopped_ok hR).mono ?_; rintro e w1 ⟨rfl, rfl⟩)
      go_quiet ((go_at_call 113; first | exact quiet_same0 (HRV.out _ (hcut.drewN _)) | exact quiet_same (HRV.out _ (hcut.drewN _))))
      go_wp2_with (go_at_call 114; refine (stop_any (e : Int) (hR.drewN _)).mono ?_; rintro e w2 ⟨rfl, hto1, hto2⟩)
      all_goals
        go_ret
        exact ⟨rfl, hto1, (only_drewN (World.grownBy.refl w _) _).trans hto2⟩
end Go.Proofs.YticanhidahkhfaaGreatDoor
