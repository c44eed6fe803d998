import Derived.Deep.RegionWith
import Derived.StillTailTactics
import Derived.Test.YticanhidahkhfaaGreatDoorJ2
import Derived.Test.YticanhidahkhfaaGreatDoorJ28
import Derived.Test.YticanhidahkhfaaGreatDoorJ20
import Derived.BigQuiet
import Derived.Deep.QuietTactic
import Derived.Test.YticanhidahkhfaaGreatDoorJ29
import Derived.Test.YticanhidahkhfaaGreatDoorJ9
import Derived.Test.YticanhidahkhfaaGreatDoorJ19
import Derived.Test.YticanhidahkhfaaGreatDoorJ22
import Derived.Test.YticanhidahkhfaaGreatDoorJ24
import Derived.Test.YticanhidahkhfaaGreatDoorJ25
import Derived.Test.YticanhidahkhfaaGreatDoorJ3
import Derived.Test.YticanhidahkhfaaGreatDoorJ14
import Derived.Test.YticanhidahkhfaaGreatDoorJ21
namespace Go.Proofs.YticanhidahkhfaaGreatDoor
open Go.RowKit
set_option linter.unusedVariables false
set_option linter.unusedSimpArgs false
set_option maxRecDepth 100000
theorem look_lt (l : List Nat) : ∀ i acc, acc < 128 ^ i → (lookF i acc l).1 < 18446744073709551616 := by
  induction l with
  | nil => intro i acc h; simp [lookF]
  | cons b r ih =>
    intro i acc h
    unfold lookF
    by_cases h1 : (0 < i ∧ b = 0) ∨ (i = 9 ∧ 1 < b % 128) ∨ 9 < i
    · rw [if_pos h1]; simp
    · rw [if_neg h1]
      have hk9 : i ≤ 9 := by omega
      have h91 : i = 9 → b % 128 ≤ 1 := fun h => by
        rcases Nat.lt_or_ge 1 (b % 128) with h2 | h2
        · exact absurd (.inr (.inl ⟨h, h2⟩)) h1
        · exact h2
      by_cases h2 : b < 128
      · rw [if_pos h2]
        have := shl_bound b i hk9 h91
        show acc + b % 128 * 128 ^ i < _
        omega
      · rw [if_neg h2]
        exact ih _ _ (acc_next acc b i h)
def noBlob (e : Nat) : Value := .tuple #[.slice none 0 0, .int .i64 0, .iface 28 (.int .i64 (e : Int))]
set_option maxHeartbeats 1000000 in
theorem readBlob_err {w : World} {B : Nat} {A : Option Addr} {n : Nat} {l : List Nat} (c : Nat) (most : Int) (e : Nat) (hr : Reads w B 1 A n (bs l)) (hby : ∀ b ∈ l, b < 256) (hn : n ≤ 140737488355328) (hm1 : -9223372036854775808 ≤ most) (hm2 : most ≤ 9223372036854775807)
    (hL : lookB l most = (0, 0, e)) (he : e ≠ 0) :
    Calls Tryz.prog 251 #[.slice A n c, .int .i64 most] w fun ev w' => ev = .returned (noBlob e) ∧ w = w' := by
  have hl : l.length = n := by have := hr.1; rw [bs_length] at this; omega
  have hrv := readVar_any c hr hby hn
  have hlt := look_lt l 0 0 (by omega)
  have hlen := look_len l 0 0
  unfold lookB at hL
  rcases hlk : lookF 0 0 l with ⟨v, m, e1⟩
  rw [hlk] at hrv hlt hlen hL
  by_cases he1 : e1 = 0
  · subst he1
    have hlen2 : m ≤ 0 + l.length ∧ 0 < m := hlen rfl
    have hv : v < 18446744073709551616 := hlt
    have hrv2 : Calls Tryz.prog 113 #[.slice A n c] w (fun ev w' => ev = Ending.returned (Value.tuple #[.int .u64 (v : Int), .int .i64 (m : Int), .nilIface]) ∧ w = w') := hrv.mono fun ev w' ⟨h1, h2⟩ => ⟨h1, h2⟩
    have HRV := Lib.hid hrv2
    simp only [if_true] at hL
    have hmn : m ≤ n := by omega
    clear hrv hrv2 hlen hlk hlt
    by_cases h0 : most < 0
    · rw [if_pos (.inl h0)] at hL
      have hE : e = 12 := by simpa using (congrArg (fun r => r.2.2) hL).symm
      subst hE
      have Hl := Lib.hid hl; clear hl hL
      go_enter Tryz.func251, Tryz.ntmps251
      go_wp2_with (go_at_call 113; refine HRV.out.mono ?_; rintro e1 _ ⟨rfl, rfl⟩)
      go_ret3
      exact ⟨rfl, rfl⟩
    · obtain ⟨q, rfl⟩ := Int.eq_ofNat_of_zero_le (show 0 ≤ most by omega)
      by_cases h2 : q < v
      · rw [if_pos (.inr (by omega))] at hL
        have hE : e = 12 := by simpa using (congrArg (fun r => r.2.2) hL).symm
        subst hE
        have Hl := Lib.hid hl; clear hl hL
        go_enter Tryz.func251, Tryz.ntmps251
        go_wp2_with (go_at_call 113; refine HRV.out.mono ?_; rintro e1 _ ⟨rfl, rfl⟩)
        go_ret3
        exact ⟨rfl, rfl⟩
      · rw [if_neg (by omega)] at hL
        by_cases h3 : l.length - m < v
        · rw [if_pos h3] at hL
          have hE : e = 2 := by simpa using (congrArg (fun r => r.2.2) hL).symm
          subst hE
          have h3' : ((n : Int) - (m : Int)) < (v : Int) := by omega
          have Hl := Lib.hid hl; clear hl h3 hL
          go_enter Tryz.func251, Tryz.ntmps251
          go_wp2_with (go_at_call 113; refine HRV.out.mono ?_; rintro e1 _ ⟨rfl, rfl⟩)
          go_ret3
          exact ⟨rfl, rfl⟩
        · rw [if_neg h3] at hL
          exact absurd (by simpa using (congrArg (fun r => r.2.2) hL).symm) he
  · rw [if_neg he1] at hL
    have hE : e = e1 := by simpa using (congrArg (fun r => r.2.2) hL).symm
    subst hE
    have hrv2 : Calls Tryz.prog 113 #[.slice A n c] w (fun ev w' => ev = Ending.returned (Value.tuple #[.int .u64 (v : Int), .int .i64 (m : Int), .iface 28 (.int .i64 (e : Int))]) ∧ w = w') := hrv.mono fun ev w' ⟨h1, h2⟩ => ⟨by rw [h1]; simp [lookV, look3, he], h2⟩
    have HRV := Lib.hid hrv2
    have Hl := Lib.hid hl
    clear hrv hrv2 hlen hlk hl hlt hL
    go_enter Tryz.func251, Tryz.ntmps251
    go_wp2_with (go_at_call 113; refine HRV.out.mono ?_; rintro e1 _ ⟨rfl, rfl⟩)
    go_ret3
    exact ⟨rfl, rfl⟩
def aBlob (A : Option Addr) (c m v : Nat) : Value := .tuple #[.slice (if c = m then A else Option.map (fun x => x.add m) A) v (c - m), .int .i64 ((m : Int) + (v : Int)), .nilIface]
set_option maxHeartbeats 1000000 in
theorem readBlob_ok {w : World} {B : Nat} {A : Option Addr} {n : Nat} {l : List Nat} (c q m v : Nat) (hr : Reads w B 1 A n (bs l)) (hby : ∀ b ∈ l, b < 256) (hn : n ≤ 140737488355328) (hnc : n ≤ c) (hm2 : q ≤ 9223372036854775807)
    (hlk : lookF 0 0 l = (v, m, 0)) (hvq : v ≤ q) (hroom : m + v ≤ n) :
    Calls Tryz.prog 251 #[.slice A n c, .int .i64 (q : Int)] w fun ev w' => ev = .returned (aBlob A c m v) ∧ w = w' := by
  have hrv := readVar_any c hr hby hn
  rw [hlk] at hrv
  have hrv2 : Calls Tryz.prog 113 #[.slice A n c] w (fun ev w' => ev = Ending.returned (Value.tuple #[.int .u64 (v : Int), .int .i64 (m : Int), .nilIface]) ∧ w = w') := hrv.mono fun ev w' ⟨h1, h2⟩ => ⟨h1, h2⟩
  have HRV := Lib.hid hrv2
  clear hrv hrv2 hlk
  have h2' : ¬ q < v := by omega
  have h3' : ¬ ((n : Int) - (m : Int)) < (v : Int) := by omega
  have hbd : (m : Int) + (v : Int) ≤ (c : Int) := by omega
  go_enter Tryz.func251, Tryz.ntmps251
  go_wp2_with (go_at_call 113; refine HRV.out.mono ?_; rintro e1 _ ⟨rfl, rfl⟩)
  all_goals
    go_ret3
    refine ⟨ret_of ?_, rfl⟩
    unfold aBlob
    first
      | (have hca : c = m := by assumption
         subst hca
         rw [if_pos rfl, Nat.sub_self]
         rfl)
      | (have hca : ¬ c = m := by assumption
         rw [if_neg hca]
         rfl)
theorem readBlob_all {B : Nat} {A : Option Addr} {n : Nat} {l : List Nat} (c q m v : Nat) (hby : ∀ b ∈ l, b < 256) (hn : n ≤ 140737488355328) (hnc : n ≤ c) (hm2 : q ≤ 9223372036854775807)
    (hlk : lookF 0 0 l = (v, m, 0)) (hvq : v ≤ q) (hroom : m + v ≤ n) : ∃ X c2,
    (∀ W : World, Reads W B 1 A n (bs l) → Calls Tryz.prog 251 #[.slice A n c, .int .i64 (q : Int)] W fun ev w' => ev = Ending.returned (Value.tuple #[.slice X v c2, .int .i64 ((m : Int) + (v : Int)), .nilIface]) ∧ W = w') ∧
    (∀ W : World, Reads W B 1 A n (bs l) → Reads W B 1 X v (bs ((l.take (m + v)).drop m))) := by
  refine ⟨if c = m then A else Option.map (fun x => x.add m) A, c - m, fun W hW => readBlob_ok c q m v hW hby hn hnc hm2 hlk hvq hroom, fun W hW => ?_⟩
  have := (hW.cut (k := m) (by omega) hnc).fore (k := v) (by omega)
  rw [List.drop_take, Nat.add_sub_cancel_left]
  simpa [bs_drop, bs_take] using this
set_option maxHeartbeats 1000000 in
theorem blob_ok {w : World} {g : Nat} {A : Option Addr} {n c at_ : Nat} {l : List Nat} (q m v : Nat) (hR : Rd w g A n c at_ .nilIface l) (hm2 : q ≤ 9223372036854775807) (hlk : lookF 0 0 (l.drop at_) = (v, m, 0)) (hvq : v ≤ q) (hroom : at_ + (m + v) ≤ n) :
    Calls Tryz.prog 183 #[.pointer (some ⟨g, 0, none⟩), .int .i64 (q : Int)] w
      fun e w' => Bytes (((l.drop at_).take (m + v)).drop m) e w' ∧ RdTo w g l (at_ + (m + v)) none w' := by
  have hc0 := hR.blk.cell 0
  have hc := hR.blk.cell 1
  simp only [List.getElem?_toArray, List.getElem?_cons_succ, List.getElem?_cons_zero] at hc hc0
  have hz := hR.size
  have hp := hR.place
  have hcap := hR.cap
  have hf := hR.blk.frozen 1
  have hlt := hR.blk.lt
  have hcut : Reads w g 1 (if c = at_ then A else Option.map (fun x => x.add at_) A) (n - at_) (bs (l.drop at_)) := by
    have := hR.reads.cut hp hcap
    simpa [bs_drop] using this
  have hby : ∀ b ∈ l.drop at_, b < 256 := fun b hb => hR.byte b (List.mem_of_mem_drop hb)
  obtain ⟨X, c2, hrb, hrx⟩ := readBlob_all (B := g) (A := if c = at_ then A else Option.map (fun x => x.add at_) A) (n := n - at_) (c - at_) q m v hby (by omega) (by omega) hm2 hlk hvq (by omega)
  have hx := hrx w hcut
  have HRB := Lib.hid hrb
  clear hrb hrx hlk hby
  go_enter Tryz.func183, Tryz.ntmps183
  go_wp2_with (go_at_call 112; refine (stopped_ok hR).mono ?_; rintro e w1 ⟨rfl, rfl⟩)
  go_quiet ((go_at_call 251; first | exact quiet_same0 (HRB.out _ (hcut.drewN _)) | exact quiet_same (HRB.out _ (hcut.drewN _))))
  go_wp2_with fail
  all_goals
    have hto : RdTo w g l (at_ + (m + v)) none ((w.drewN nq).setCell ⟨g, 1, none⟩ (.int .i64 ((at_ : Int) + ((m : Int) + (v : Int))))) :=
      RdS.goes hR (x := none) rfl (m + v) hroom ((Drawn.one w nq).below (Below.refl w.heap.size w))
    have hx1 : Reads ((w.drewN nq).setCell ⟨g, 1, none⟩ (.int .i64 ((at_ : Int) + ((m : Int) + (v : Int))))) ((w.drewN nq).setCell ⟨g, 1, none⟩ (.int .i64 ((at_ : Int) + ((m : Int) + (v : Int))))).heap.size 1 X v (bs (((l.drop at_).take (m + v)).drop m)) :=
      ((hx.drewN nq).setCell (p := ⟨g, 1, none⟩) (Nat.le_refl _) _).more (by simp; omega)
    refine (clone_any X v c2 _ _ hx1 (bs_one _) (by omega)).mono ?_
    rintro e2 w2 ⟨v2, rfl, hown2, hb2⟩
    obtain ⟨A2, c3, rfl, _, _, hr2⟩ := own_slice hown2
    go_wp2_with fail
    go_ret
    exact ⟨⟨A2, v, c3, rfl, hr2⟩, hto.1.next hb2, only_below hto.2 hb2⟩
theorem blob_is {w : World} {g : Nat} {l : List Nat} {at_ : Nat} {x : Option (Int × Nat)} (most : Int) (h : RdS w g l at_ x) (hm1 : -9223372036854775808 ≤ most) (hm2 : most ≤ 9223372036854775807) :
    Calls Tryz.prog 183 #[.pointer (some ⟨g, 0, none⟩), .int .i64 most] w
      fun e w' => Bytes (blobS l at_ x most).1 e w' ∧ RdTo w g l (blobS l at_ x most).2.1 (blobS l at_ x most).2.2 w' := by
  cases x with
  | some x =>
    go_enter Tryz.func183, Tryz.ntmps183
    go_wp2_with (go_at_call 112; refine (stopped_err h).mono ?_; rintro e w1 ⟨rfl, rfl⟩)
    go_ret
    exact ⟨⟨none, 0, 0, rfl, Reads.none_⟩, RdTo.same h (Drawn.refl w)⟩
  | none =>
    obtain ⟨A, n, c, err, hR, rfl⟩ := h
    have hln := hR.length
    have hp := hR.place
    by_cases he : (lookB (l.drop at_) most).2.2 = 0
    · have hS : blobS l at_ none most = (((l.drop at_).take (lookB (l.drop at_) most).2.1).drop (lookB (l.drop at_) most).1, at_ + (lookB (l.drop at_) most).2.1, none) := by unfold blobS; simp only [he, if_true]
      rw [hS]
      unfold lookB at he ⊢
      rcases hlk : lookF 0 0 (l.drop at_) with ⟨v, m, e1⟩
      have hlen := look_len (l.drop at_) 0 0
      rw [hlk] at he hlen
      by_cases he1 : e1 = 0
      · subst he1
        simp only [if_true] at he ⊢
        by_cases h0 : most < 0 ∨ most < (v : Int)
        · rw [if_pos h0] at he; cases he
        · rw [if_neg h0] at he ⊢
          by_cases h3 : (l.drop at_).length - m < v
          · rw [if_pos h3] at he; cases he
          · rw [if_neg h3]
            obtain ⟨q, rfl⟩ := Int.eq_ofNat_of_zero_le (show 0 ≤ most by omega)
            have hl2 : m ≤ 0 + (l.drop at_).length ∧ 0 < m := hlen rfl
            rw [List.length_drop] at h3 hl2
            exact blob_ok q m v hR (by omega) hlk (by omega) (by omega)
      · rw [if_neg he1] at he; exact absurd he he1
    · have hS : blobS l at_ none most = ([], at_, some (((lookB (l.drop at_) most).2.2 : Int), at_)) := by unfold blobS; simp only [he, if_false]
      rw [hS]
      obtain ⟨e, hE⟩ : ∃ e, e = (lookB (l.drop at_) most).2.2 := ⟨_, rfl⟩
      rw [← hE] at he ⊢
      have hL : lookB (l.drop at_) most = (0, 0, e) := by
        rw [hE] at he ⊢
        unfold lookB at he ⊢
        split
        · split
          · rfl
          · split
            · rfl
            · rename_i a b c
              rw [if_pos a, if_neg b, if_neg c] at he
              exact absurd rfl he
        · rfl
      have hc0 := hR.blk.cell 0
      have hc := hR.blk.cell 1
      simp only [List.getElem?_toArray, List.getElem?_cons_succ, List.getElem?_cons_zero] at hc hc0
      have hz := hR.size
      have hcap := hR.cap
      have hcut : Reads w g 1 (if c = at_ then A else Option.map (fun x => x.add at_) A) (n - at_) (bs (l.drop at_)) := by
        have := hR.reads.cut hp hcap
        simpa [bs_drop] using this
      have hrb : ∀ W : World, Reads W g 1 (if c = at_ then A else Option.map (fun x => x.add at_) A) (n - at_) (bs (l.drop at_)) → Calls Tryz.prog 251 #[.slice (if c = at_ then A else Option.map (fun x => x.add at_) A) (n - at_) (c - at_), .int .i64 most] W (fun ev w' => ev = Ending.returned (Value.tuple #[.slice none 0 0, .int .i64 0, .iface 28 (.int .i64 (e : Int))]) ∧ W = w') :=
        fun W hW => readBlob_err (c - at_) most e hW (fun b hb => hR.byte b (List.mem_of_mem_drop hb)) (by omega) hm1 hm2 hL he
      have HRB := Lib.hid hrb
      clear hrb hL hE hS hln
      go_enter Tryz.func183, Tryz.ntmps183
      go_wp2_with (go_at_call 112; refine (stopped_ok hR).mono ?_; rintro e w1 ⟨rfl, rfl⟩)
      go_quiet ((go_at_call 251; first | exact quiet_same0 (HRB.out _ (hcut.drewN _)) | exact quiet_same (HRB.out _ (hcut.drewN _))))
      go_wp2_with (go_at_call 114; refine (stop_any (e : Int) (hR.drewN _)).mono ?_; rintro e2 w2 ⟨rfl, hto1, hto2⟩)
      all_goals
        go_ret
        exact ⟨⟨none, 0, 0, rfl, Reads.none_⟩, hto1, (only_drewN (World.grownBy.refl w _) _).trans hto2⟩
end Go.Proofs.YticanhidahkhfaaGreatDoor
namespace Go.Proofs.YticanhidahkhfaaGreatDoor
open Go.RowKit
set_option linter.unusedVariables false
set_option linter.unusedSimpArgs false
set_option maxRecDepth 100000
attribute [local go_sem] binOp_leq_tx
theorem varT_first {w : World} {g : Nat} {b : List Nat} (h : RdS w g b 0 none) :
    Calls Tryz.prog 62 #[.pointer (some ⟨g, 0, none⟩)] w fun e w' => e = .returned (.int .u64 (vv b 0 : Int)) ∧ RdTo w g b (vst b 1).1 (vst b 1).2 w' := var_is h
def ReadLT (w : World) (g : Nat) (b : List Nat) (n : Nat) (e : Ending) (w' : World) : Prop :=
  ∃ v X, e = .returned v ∧ w'.ownsRow w.heap.size 9 1 v X.length (ts X) ∧ (X.length ≤ n ∧ ((rdt b n).1.2 = none → X = (rdt b n).2)) ∧ RdTo w g b (rdt b n).1.1 (rdt b n).1.2 w'
theorem blobS_byte {b : List Nat} (hb : ∀ x ∈ b, x < 256) (at_ : Nat) (x : Option (Int × Nat)) (most : Int) : ∀ y ∈ (blobS b at_ x most).1, y < 256 := by
  intro y hy
  unfold blobS at hy
  cases x with
  | some z => simp at hy
  | none =>
    simp only at hy
    split at hy
    · exact hb y (List.mem_of_mem_drop (List.mem_of_mem_take (List.mem_of_mem_drop hy)))
    · simp at hy
theorem only_row {a w w2 : World} {g n : Nat} {B : Nat} {t : TypeId} {v : Value} {xs : List Value} (h : a.grownBy w (some g)) (hB : a.heap.size ≤ B) (hown : w.ownsRow B t 1 v n xs) (o : Obj) (hg : (w.alloc o).grownBy w2 v.ownBlock) : a.grownBy w2 (some g) := by
  have h1 := only_alloc h o
  refine ⟨hg.os.trans h1.os, hg.tape.trans h1.tape, hg.output.trans h1.output, Nat.le_trans h1.size hg.size, fun i hi hne => ?_⟩
  refine (hg.block i (Nat.lt_of_lt_of_le hi h1.size) (fun e => ?_)).trans (h1.block i hi hne)
  have := (hown.lt i e.symm).1
  omega
theorem Met.rd {w w' : World} {g : Nat} {l : List Nat} {at_ : Nat} {x : Option (Int × Nat)} (h : Met w) (hS : RdS w g l at_ x) (hg : w.grownBy w' (some g)) : Met w' := by
  unfold Met at h ⊢
  refine hg.cell h (fun e => ?_)
  injection e with e
  obtain ⟨A, n, c, err, hR, _⟩ := hS
  have h0 := hR.blk.cell 0
  rw [← e] at h0
  rw [h0] at h
  simp at h
set_option maxHeartbeats 1000000 in
theorem readLT_much {w : World} {g : Nat} {b : List Nat} (n : Nat) (h : RdS w g b 0 none) (hn : n ≤ 65536) (hmet : Met w) (hcn : n < vv b 0) :
    Calls Tryz.prog 236 #[.pointer (some ⟨g, 0, none⟩), .int .i64 (n : Int)] w (ReadLT w g b n) := by
  have hby := h.byte
  have hgw := h.lt
  have hv0 := vv_lt hby 0
  have hnw : IntKind.u64.wrap (n : Int) = (n : Int) := IntWalk.u64_in _ (by omega)
  have hvi := varT_first h
  have hno : (vst b 1).2 = none := by
    cases hx : (vst b 1).2 with
    | none => rfl
    | some y => have := vv_err hx; omega
  have HR : Hid (rdt b n = (((vst b 1).1, some (5, (vst b 1).1)), [])) := Lib.hid (by unfold rdt; rw [if_pos hcn, hno]; rfl)
  rw [hno] at hvi
  have HV := Lib.hid hvi
  obtain ⟨c, hc⟩ : ∃ c, c = vv b 0 := ⟨_, rfl⟩
  obtain ⟨a1, ha⟩ : ∃ a1, a1 = (vst b 1).1 := ⟨_, rfl⟩
  rw [← hc] at HV hv0 hcn
  rw [← ha] at HV HR
  have hc0 : 0 < c := by omega
  clear hvi hno hc ha hby
  go_enter Tryz.func236, Tryz.ntmps236
  go_wp2_with fail
  go_step3
  go_wp2_with fail
  refine HV.out.mono ?_
  rintro e w1 ⟨rfl, hS1, hG1⟩
  go_wp2_with fail
  refine (fail_is 5 hS1).mono ?_
  rintro e w2 ⟨rfl, hS2, hG2⟩
  have hS2' : RdS w2 g b a1 (some (5, a1)) := hS2
  have hG02 := only_trans hG1 hG2
  clear hS1 hG1 hS2 hG2
  go_wp2_with fail
  go_step3
  go_wp2_with fail
  go_loopg [6, 19] 0 (fun gg s6 s19 wr => s6 = .slice none 0 0 ∧ s19 = .int .u64 ((0 : Nat) : Int) ∧ wr = w2)
  case atStart => exact ⟨rfl, rfl, rfl⟩
  case round =>
    obtain ⟨rfl, rfl, rfl⟩ := hrel
    go_wp2_with fail
    refine (blob_is 65536 hS2' (by omega) (by omega)).mono ?_
    rintro e w3 ⟨⟨A3, n3, c3, rfl, r3⟩, hS3, hG3⟩
    have hcv := text_of c3 r3 (by intro x hx; simp [blobS] at hx)
    have hS3' : RdS w3 g b a1 (some (5, a1)) := hS3
    have hG03 := only_trans hG02 hG3
    have hm3 := hmet.rd h hG03
    have HE := Lib.hid (err_is hm3 hS3')
    clear hS3 hG3 r3 hS2' hG02
    go_wp2_with fail
    refine HE.out.mono ?_
    rintro e w4 ⟨he, hb4⟩
    have he' : e = .returned (.tuple #[.int .i64 5, .int .i64 (a1 : Int)]) := he
    subst he'
    have hS4 := hS3'.next hb4
    have hG04 := only_below hG03 hb4
    clear he hcv hm3 hS3' hG03 hb4
    go_wp2_with fail
    rw [Exit.noGoto_ret]
    go_ret
    refine ⟨.slice none 0 0, [], rfl, own_nil _ _ _ _, ⟨Nat.zero_le _, fun h0 => ?_⟩, ?_⟩
    · rw [HR.out] at h0; cases h0
    · rw [HR.out]; exact ⟨hS4, hG04⟩
theorem ts_snoc' (l : List Tx) (s : Tx) : ts l ++ [Value.string ⟨s.toArray⟩] = ts (l ++ [s]) := by simp [ts]
theorem tdS_go {b : List Nat} {k a2 : Nat} {p : List Nat} {x2 : Option (Int × Nat)} (hx : (tdS b k).1.2 = none) (hv : blobS b (tdS b k).1.1 none 65536 = (p, a2, x2)) :
    tdS b (k + 1) = (if k ≠ 0 ∧ ¬ tlt (tdS b k).2 (tb p) then (a2, failS a2 x2 4) else (a2, x2), tb p) := by
  conv => lhs; unfold tdS
  simp only
  rw [hx, hv]
theorem tdS_far {b : List Nat} {k c : Nat} {y : Int × Nat} {a : Nat} (hk : k ≤ c) (h : (tdS b k).1 = (a, some y)) : (tdS b c).1 = (a, some y) := by
  have := tdS_stop (b := b) (k := k) (y := y) (by rw [h]) (c - k)
  rw [show k + (c - k) = c by omega] at this
  rw [this, h]
set_option maxHeartbeats 2000000 in
theorem readLT_ok {w : World} {g : Nat} {b : List Nat} (n : Nat) (h : RdS w g b 0 none) (hn : n ≤ 65536) (hmet : Met w) (hcn : ¬ n < vv b 0) :
    Calls Tryz.prog 236 #[.pointer (some ⟨g, 0, none⟩), .int .i64 (n : Int)] w (ReadLT w g b n) := by
  obtain ⟨i1, hi1, hy0, hy1, hy2⟩ := info_parts info_str
  have hby := h.byte
  have hgw := h.lt
  have hnw : IntKind.u64.wrap (n : Int) = (n : Int) := IntWalk.u64_in _ (by omega)
  have hvi := varT_first h
  have HR : Hid (rdt b n = ((tdS b (vv b 0)).1, tdL b (vv b 0))) := Lib.hid (by unfold rdt; rw [if_neg hcn])
  have HER : Hid ((tdS b 0).1.2 = none ∨ vv b 0 = 0) := Lib.hid (by
    cases hx : (vst b 1).2 with
    | none => exact .inl hx
    | some y => exact .inr (vv_err hx))
  have hfa : 9 ≠ 133 := by decide
  have HV := Lib.hid hvi
  obtain ⟨c, hc⟩ : ∃ c, c = vv b 0 := ⟨_, rfl⟩
  rw [← hc] at HV hcn HR HER
  have hcn' : c ≤ n := by omega
  have d15 : decide (n < c) = false := by simp; omega
  have HBY := Lib.hid hby
  have HFA := Lib.hid hfa
  clear hvi hc hby hcn hfa
  go_enter Tryz.func236, Tryz.ntmps236
  go_wp2_with fail
  go_step3
  go_wp2_with fail
  refine HV.out.mono ?_
  rintro e w1 ⟨rfl, hS1, hG1⟩
  have hS1' : RdS w1 g b (tdS b 0).1.1 (tdS b 0).1.2 := hS1
  clear hS1
  go_wp2_with fail
  go_step3
  go_wp2_with fail
  go_loopg [6, 19] c (fun gg s6 s19 wr => ∃ k : Nat, k + gg = c ∧ s19 = .int .u64 (k : Int) ∧ wr.ownsRow w.heap.size 9 1 s6 k (ts (tdL b k)) ∧ RdS wr g b (tdS b k).1.1 (tdS b k).1.2 ∧ w.grownBy wr (some g) ∧ Hid ((tdS b k).1.2 = none ∨ c = 0))
  case atStart => exact ⟨0, by omega, rfl, own_nil _ _ _ _, hS1', hG1, HER⟩
  case round =>
    clear hS1' hG1
    obtain ⟨k, hkg, rfl, hown, hS, hG, hX⟩ := hrel
    by_cases hlt : k < c
    · have hx0 : (tdS b k).1.2 = none := hX.out.resolve_right (by omega)
      rcases hV : blobS b (tdS b k).1.1 none 65536 with ⟨p, a2, x2⟩
      have hgo := tdS_go hx0 hV
      rw [hx0] at hS
      have hpb : ∀ y ∈ p, y < 256 := by have := blobS_byte HBY.out (tdS b k).1.1 none 65536; rw [hV] at this; exact this
      have hbl := blob_is 65536 hS (by omega) (by omega)
      rw [hV] at hbl
      have hok : ∀ y, x2 = some y → y.1 ≠ 0 := fun y hy => blobS_ok b (tdS b k).1.1 65536 y (by rw [hV]; exact hy)
      have HLA : Hid (∀ j, k = j + 1 → (ts (tdL b k))[j]? = some (.string ⟨(tdS b k).2.toArray⟩)) := Lib.hid fun j hj => ts_get (by rw [tdL_at b k j (by omega), hj])
      obtain ⟨last, hl0⟩ : ∃ s, s = (tdS b k).2 := ⟨_, rfl⟩
      rw [← hl0] at hgo HLA
      have HBL := Lib.hid hbl; have HPB := Lib.hid hpb; have HOK := Lib.hid hok; have HGO := Lib.hid hgo
      obtain ⟨A6, c6, rfl, _, _, _⟩ := own_slice hown
      clear hbl hpb hok hgo hV hl0 hX hx0 hS
      go_wp2_with fail
      refine HBL.out.mono ?_
      rintro e w3 ⟨⟨A3, n3, c3, rfl, r3⟩, hS3, hG3⟩
      have hcv := text_of c3 r3 HPB.out
      have hS3' : RdS w3 g b a2 x2 := hS3
      have hG03 := only_trans hG hG3
      have hown3 := own_before hown hG3 (fun r hr => by injection hr with hr; omega)
      have hm3 := hmet.rd h hG03
      have HE := Lib.hid (err_is hm3 hS3')
      obtain ⟨T, hT⟩ : ∃ T, T = tb p := ⟨_, rfl⟩
      have hcv' : (convert 48 9 (.slice A3 n3 c3)).run Tryz.prog w3 = .ok (.string ⟨T.toArray⟩) w3 := by rw [hT]; exact hcv
      rw [← hT] at HGO
      clear hS3 hG3 r3 hG hown hT hcv HBL HPB
      go_wp2_with fail
      refine HE.out.mono ?_
      rintro e w4 ⟨he, hb4⟩
      have hS4 := hS3'.next hb4
      have hG04 := only_below hG03 hb4
      have hown4 := own_below hown3 hb4
      clear hcv' hm3 hS3' hG03 hb4 HE hown3
      cases x2 with
      | some y =>
        have hy := HOK.out y rfl
        obtain ⟨y1, y2⟩ := y
        have he' : e = .returned (.tuple #[.int .i64 y1, .int .i64 (y2 : Int)]) := he
        subst he'
        have q1 : (y1 != 0) = true := by simpa using hy
        have q2 : (y1 == 0) = false := by simpa using hy
        have HF : Hid ((tdS b c).1 = (a2, some (y1, y2))) := Lib.hid (tdS_far (k := k + 1) (by omega) (by rw [HGO.out]; simp only; split <;> rfl))
        clear he hy HGO HOK
        go_wp2_with fail
        rw [Exit.noGoto_ret]
        go_ret
        refine ⟨_, tdL b k, rfl, by rw [tdL_length]; exact hown4, ⟨by rw [tdL_length]; omega, fun h0 => ?_⟩, ?_⟩
        · rw [HR.out] at h0; simp only at h0; rw [HF.out] at h0; cases h0
        · rw [HR.out]; simp only; rw [HF.out]; exact ⟨hS4, hG04⟩
      | none =>
        have he' : e = .returned (.tuple #[.int .i64 0, .int .i64 ((0 : Nat) : Int)]) := he
        subst he'
        clear he HOK
        have hfin : ∀ (v5 : Value) (w5 : World) (o : Obj), w5.ownsRow w.heap.size 9 1 v5 (k + 1) (ts (tdL b k) ++ [.string ⟨T.toArray⟩]) → (w4.alloc o).grownBy w5 (Value.slice A6 k c6).ownBlock → tdS b (k + 1) = ((a2, none), T) →
            w5.ownsRow w.heap.size 9 1 v5 (k + 1) (ts (tdL b (k + 1))) ∧ RdS w5 g b (tdS b (k + 1)).1.1 (tdS b (k + 1)).1.2 ∧ w.grownBy w5 (some g) ∧ Hid ((tdS b (k + 1)).1.2 = none ∨ c = 0) := by
          intro v5 w5 o h1 h2 h3
          refine ⟨?_, ?_, only_row hG04 (Nat.le_refl _) hown4 o h2, Lib.hid (.inl (by rw [h3]))⟩
          · rw [tdL_succ, h3, ← ts_snoc' ]; exact h1
          · rw [h3]; exact hS4.app hown4 HFA.out hgw o h2
        have HFIN := Lib.hid hfin
        clear hfin
        by_cases hk0 : k = 0
        case' pos =>
          have HG1 : Hid (tdS b (k + 1) = ((a2, none), T)) := Lib.hid (by rw [HGO.out, if_neg (fun hh => hh.1 hk0)])
          have d1 : ¬ 0 < k := by omega
          clear HLA HGO hk0
          go_wp2_with (at_builtin
                       refine wpList_append_any _ rfl (.tmp 48) (.tmp 50) _ rfl w.heap.size 9 i1 _ 1 16 Tryz.underlying206 hi1 hy0 hy1 hy2 rfl (by omega) (.slice A6 k c6) k (ts (tdL b k)) rfl
                         (hown4.alloc _) (w4.heap.size + 1) (some ⟨w4.heap.size, 0, none⟩) 1 1 [.string ⟨T.toArray⟩] rfl (Reads.new w4 _ _) (ts_one [T]) (by unfold maxLen; omega) (by omega) (by have := hG04.size; simp; omega) ?_
                       intro v5 w5 hown5 hg5 hat5)
        case' neg =>
          obtain ⟨j, hj⟩ : ∃ j, k = j + 1 := ⟨k - 1, by omega⟩
          have HJ := Lib.hid (HLA.out j hj)
          have hjk : j < k := by omega
          have hk1 : (k : Int) - 1 = (j : Int) := by omega
          have d1 : 0 < k := by omega
          have hkn : k ≠ 0 := hk0
          obtain ⟨ad, u, rfl, _, hu, hcl⟩ := (Reads.of_own hown4).at_ hjk
          obtain rfl : u = .string ⟨last.toArray⟩ := by rw [HJ.out] at hu; exact (Option.some.inj hu).symm
          by_cases hlt2 : tlt last T
          case' neg =>
            have HF : Hid ((tdS b c).1 = (a2, some (4, a2))) := Lib.hid (tdS_far (k := k + 1) (by omega) (by rw [HGO.out, if_pos ⟨hkn, hlt2⟩]; rfl))
            have q1 : decide (tlt last T) = false := by simp [hlt2]
            clear HGO hlt2 hu hj hk0 hkn HFIN HJ HLA
            go_wp2_with fail
            refine (fail_is 4 hS4).mono ?_
            rintro e w5 ⟨rfl, hS5, hG5⟩
            have hG05 := only_trans hG04 hG5
            have hown5 := own_before hown4 hG5 (fun r hr => by injection hr with hr; omega)
            clear hS4 hG5 hG04 hown4
            go_wp2_with fail
            rw [Exit.noGoto_ret]
            go_ret
            refine ⟨_, tdL b k, rfl, by rw [tdL_length]; exact hown5, ⟨by rw [tdL_length]; omega, fun h0 => ?_⟩, ?_⟩
            · rw [HR.out] at h0; simp only at h0; rw [HF.out] at h0; cases h0
            · rw [HR.out]; simp only; rw [HF.out]; exact ⟨hS5, hG05⟩
          case' pos =>
            have HG1 : Hid (tdS b (k + 1) = ((a2, none), T)) := Lib.hid (by rw [HGO.out, if_neg (fun hh => hh.2 hlt2)])
            have q1 : decide (tlt last T) = true := by simp [hlt2]
            clear HGO hlt2 hu hj hk0 hkn HJ HLA
            go_wp2_with (at_builtin
                         refine wpList_append_any _ rfl (.tmp 48) (.tmp 50) _ rfl w.heap.size 9 i1 _ 1 16 Tryz.underlying206 hi1 hy0 hy1 hy2 rfl (by omega) (.slice (some ad) k c6) k (ts (tdL b k)) rfl
                           (hown4.alloc _) (w4.heap.size + 1) (some ⟨w4.heap.size, 0, none⟩) 1 1 [.string ⟨T.toArray⟩] rfl (Reads.new w4 _ _) (ts_one [T]) (by unfold maxLen; omega) (by omega) (by have := hG04.size; simp; omega) ?_
                         intro v5 w5 hown5 hg5 hat5)
        all_goals
          obtain ⟨f1, f2, f3, f4⟩ := HFIN.out v5 w5 _ hown5 hg5 HG1.out
          clear hown5 hg5 hS4 hown4 hG04 HFIN
          go_roundg (c - (k + 1))
          case rel => exact ⟨k + 1, by omega, by go_num, f1, f2, f3, f4⟩
          case measure => omega
    · obtain rfl : k = c := by omega
      go_wp2_with fail
      rw [Exit.noGoto_ret]
      go_ret
      refine ⟨_, tdL b k, rfl, by rw [tdL_length]; exact hown, ⟨by rw [tdL_length]; exact hcn', fun _ => by rw [HR.out]⟩, ?_⟩
      rw [HR.out]; exact ⟨hS, hG⟩
end Go.Proofs.YticanhidahkhfaaGreatDoor
namespace Go.Proofs.YticanhidahkhfaaGreatDoor
open Go.RowKit
set_option linter.unusedVariables false
set_option linter.unusedSimpArgs false
set_option maxRecDepth 100000
theorem txGet_no (A : Option Addr) (n c : Nat) (b : List Nat) (k : Int) (w : World) (h : k < 0 ∨ 65536 < k) :
    Calls Tryz.prog 165 #[.slice A n c, .int .i64 k] w (NewTE w (txG b k) (txE b k)) := by
  obtain ⟨h1, h2⟩ := txE_bad (b := b) h
  rw [h1, h2]
  have HC := Lib.hid (pcGetS_no A n c k (.func (.func 236) #[] #[]) w h)
  clear h1 h2 h
  go_enter Tryz.func165, Tryz.ntmps165
  go_wp2_with fail
  refine HC.out.mono ?_
  rintro e w1 ⟨rfl, rfl⟩
  go_wp2_with fail
  go_ret2
  exact ⟨.slice none 0 0, rfl, own_nil _ _ _ _, Below.refl _ _⟩
theorem txS_fit {b : List Nat} (hb : ∀ x ∈ b, x < 256) {N : Nat} (hN : N ≤ 65536) (hE : txE b (N : Int) = 0) : (txS b N).1.length = N ∧ ∀ a ∈ (txS b N).1, a < (rdt b N).2.length := by
  obtain ⟨z1, z2, z3⟩ := txE_zero hN hE
  obtain ⟨h1, h2, h3, _⟩ := txG_rest hb hN z2 z3 hE
  have hr : rdt b N = ((tdS b (vv b 0)).1, tdL b (vv b 0)) := by unfold rdt; rw [if_neg z2]
  have hP : (txS b N).1 = unpackS (b.drop ((tdS b (vv b 0)).1.1 + 1)) (N : Int) (blen (vv b 0 - 1) : Int) := by
    unfold txS
    rw [hr]
    simp only
    rw [z3, tdL_length]
    rw [rp_rest b _ N _ h1]
  obtain ⟨_, _, p3, _⟩ := pack_again (b.drop ((tdS b (vv b 0)).1.1 + 1)) (N : Int) (blen (vv b 0 - 1) : Int) (fun x hx => hb x (List.mem_of_mem_drop hx)) h2
  obtain ⟨w1, _⟩ := whE_zero h3
  rw [hP, hr]
  simp only
  rw [tdL_length]
  exact ⟨by rw [p3]; simp, w1⟩
theorem rdt_length {b : List Nat} {N : Nat} (hN : N ≤ 65536) : (rdt b N).2.length ≤ 65536 := by
  unfold rdt
  split
  · simp
  · rename_i h; simp only; rw [tdL_length]; omega
theorem rdt_ok (b : List Nat) (N : Nat) (y : Int × Nat) (h : (rdt b N).1.2 = some y) : y.1 ≠ 0 := by
  unfold rdt at h
  split at h
  · simp only at h
    cases hx : (vst b 1).2 with
    | some z =>
      rw [hx] at h
      injection h with h
      subst h
      exact vst_ok b 1 z hx
    | none =>
      rw [hx, failS_none _ _ (by omega)] at h
      injection h with h
      subst h
      simp
  · exact tdS_ok b _ y h
def ReadQ (b : List Nat) (N : Nat) (X : List Value) : Prop := ∃ L : List Tx, X = ts L ∧ L.length ≤ N ∧ ((rdt b N).1.2 = none → L = (rdt b N).2)
theorem readLT_any {w : World} {g : Nat} {b : List Nat} (n : Nat) (h : RdS w g b 0 none) (hn : n ≤ 65536) (hmet : Met w) :
    Calls Tryz.prog 236 #[.pointer (some ⟨g, 0, none⟩), .int .i64 (n : Int)] w (ReadLT w g b n) := by
  by_cases hc : n < vv b 0
  · exact readLT_much n h hn hmet hc
  · exact readLT_ok n h hn hmet hc
theorem readQ_fit {b : List Nat} (hb : ∀ x ∈ b, x < 256) {N : Nat} (hN : N ≤ 65536) {X : List Value} (hX : ReadQ b N X) : X.length ≤ 65536 ∧ (endS b (rpS b (rdt b N).1.1 (rdt b N).1.2 N X.length).2.1 (rpS b (rdt b N).1.1 (rdt b N).1.2 N X.length).2.2).1 = txE b (N : Int) ∧
    (txE b (N : Int) = 0 → (rpS b (rdt b N).1.1 (rdt b N).1.2 N X.length).1.length = N ∧ (ts (txG b (N : Int))).length = N ∧ ∀ (k p : Nat), (rpS b (rdt b N).1.1 (rdt b N).1.2 N X.length).1[k]? = some p → ∃ u : ByteArray, X[p]? = some (.string u) ∧ (ts (txG b (N : Int)))[k]? = some (.string u)) := by
  obtain ⟨L, rfl, hL, hQ⟩ := hX
  rw [ts_length]
  cases hx : (rdt b N).1.2 with
  | some y =>
    have hy := rdt_ok b N y hx
    have hE := txE_some hN hy hx
    refine ⟨by omega, ?_, fun h0 => ?_⟩
    · rw [rp_some, hE, endS_some _ _ _ hy]
    · rw [hE] at h0; exact absurd h0 hy
  | none =>
    obtain rfl := hQ hx
    have hS : rpS b (rdt b N).1.1 none N (rdt b N).2.length = txS b N := by unfold txS; rw [hx]
    rw [hS]
    have hE : txE b (N : Int) = (endS b (txS b N).2.1 (txS b N).2.2).1 := by unfold txE; rw [if_neg (by omega), Int.toNat_natCast]
    refine ⟨rdt_length hN, hE.symm, fun h0 => ?_⟩
    have hG : txG b (N : Int) = (txS b N).1.map (fun a => ((rdt b N).2[a]?).getD []) := by unfold txG; rw [if_pos h0, Int.toNat_natCast]
    obtain ⟨f1, f2⟩ := txS_fit hb hN h0
    refine ⟨f1, by rw [ts_length, hG, List.length_map, f1], fun k p hp => ?_⟩
    have hz : (rdt b N).2[p]? = some ((rdt b N).2[p]'(f2 p (List.mem_of_getElem? hp))) := List.getElem?_eq_getElem _
    refine ⟨_, ts_get hz, ts_get ?_⟩
    rw [hG, List.getElem?_map, hp]
    simp [hz]
theorem txGet_ok (A : Option Addr) (n c N : Nat) (b : List Nat) (w : World) (hr : Reads w w.heap.size 1 A n (bs b)) (hb : ∀ x ∈ b, x < 256) (hn : n ≤ 140737488355328) (hN : N ≤ 65536) (hmet : Met w) :
    Calls Tryz.prog 165 #[.slice A n c, .int .i64 (N : Int)] w (NewTE w (txG b (N : Int)) (txE b (N : Int))) := by
  have HC := Lib.hid (pcGetS_any A n c N b (rdt b N).1.1 (rdt b N).1.2 (ReadQ b N) (txE b (N : Int)) (ts (txG b (N : Int))) w hr hb hn hN hmet
    (fun w g hm h => (readLT_any N h hN hm).mono fun e w' ⟨v, X, h1, h2, h3, h4⟩ => ⟨v, ts X, h1, by rw [ts_length]; exact h2, ⟨X, rfl, h3.1, h3.2⟩, h4⟩)
    (fun X hX => readQ_fit hb hN hX)
    (fun h0 => by unfold txG; rw [if_neg h0]; rfl))
  go_enter Tryz.func165, Tryz.ntmps165
  go_wp2_with fail
  refine HC.out.mono ?_
  rintro e w1 ⟨v, rfl, hown, hb1⟩
  go_wp2_with fail
  go_ret2
  exact ⟨v, rfl, by rw [ts_length] at hown; exact hown, hb1⟩
theorem txGet_any (A : Option Addr) (n c : Nat) (k : Int) (b : List Nat) (w : World) (hr : Reads w w.heap.size 1 A n (bs b)) (hb : ∀ x ∈ b, x < 256) (hn : n ≤ 140737488355328) (hmet : Met w) :
    Calls Tryz.prog 165 #[.slice A n c, .int .i64 k] w (NewTE w (txG b k) (txE b k)) := by
  by_cases h : k < 0 ∨ 65536 < k
  · exact txGet_no A n c b k w h
  · obtain ⟨N, rfl⟩ : ∃ N : Nat, k = (N : Int) := ⟨k.toNat, by omega⟩
    exact txGet_ok A n c N b w hr hb hn (by omega) hmet
end Go.Proofs.YticanhidahkhfaaGreatDoor
