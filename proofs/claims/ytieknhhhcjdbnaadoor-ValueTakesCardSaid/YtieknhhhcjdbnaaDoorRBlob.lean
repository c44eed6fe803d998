/- Contract of package num's readBlob, and of the Reader's Blob. -/
import Derived.Deep.RegionWith
import Derived.StillTailTactics
import Derived.Test.YtieknhhhcjdbnaaDoorRdE
import Derived.Test.YtieknhhhcjdbnaaDoorJ13
import Derived.Test.YtieknhhhcjdbnaaDoorJ14
namespace Go.Proofs.YtieknhhhcjdbnaaDoor
open Go.RowKit
set_option linter.unusedVariables false
set_option linter.unusedSimpArgs false
set_option maxRecDepth 100000

theorem look_lt (l : List Nat) : ∀ i acc, acc < 128 ^ i → (lookF i acc l).1 < 18446744073709551616 := by
  induction l with
  | nil => intro i acc h; simp [lookF]
  | cons b r ih =>
    intro i acc h
    unfold lookF
    by_cases h1 : (0 < i ∧ b = 0) ∨ (i = 9 ∧ 1 < b % 128) ∨ 9 < i
    · rw [if_pos h1]; simp
    · rw [if_neg h1]
      have hk9 : i ≤ 9 := by omega
      have h91 : i = 9 → b % 128 ≤ 1 := fun h => by
        rcases Nat.lt_or_ge 1 (b % 128) with h2 | h2
        · exact absurd (.inr (.inl ⟨h, h2⟩)) h1
        · exact h2
      by_cases h2 : b < 128
      · rw [if_pos h2]
        have := shl_bound b i hk9 h91
        show acc + b % 128 * 128 ^ i < _
        omega
      · rw [if_neg h2]
        exact ih _ _ (acc_next acc b i h)

def noBlob (e : Nat) : Value := .tuple #[.slice none 0 0, .int .i64 0, .iface 44 (.int .i64 (e : Int))]
set_option maxHeartbeats 1000000 in
theorem readBlob_err {w : World} {B : Nat} {A : Option Addr} {n : Nat} {l : List Nat} (c : Nat) (most : Int) (e : Nat) (hr : Reads w B 1 A n (bs l)) (hby : ∀ b ∈ l, b < 256) (hn : n ≤ 140737488355328) (hm1 : -9223372036854775808 ≤ most) (hm2 : most ≤ 9223372036854775807)
    (hL : lookB l most = (0, 0, e)) (he : e ≠ 0) :
    Calls Tryd.prog 56 #[.slice A n c, .int .i64 most] w fun ev w' => ev = .returned (noBlob e) ∧ w = w' := by
  have hl : l.length = n := by have := hr.1; rw [bs_length] at this; omega
  have hrv := readVar_any c hr hby hn
  have hlt := look_lt l 0 0 (by omega)
  have hlen := look_len l 0 0
  unfold lookB at hL
  rcases hlk : lookF 0 0 l with ⟨v, m, e1⟩
  rw [hlk] at hrv hlt hlen hL
  by_cases he1 : e1 = 0
  · subst he1
    have hlen2 : m ≤ 0 + l.length ∧ 0 < m := hlen rfl
    have hv : v < 18446744073709551616 := hlt
    have hrv2 : Calls Tryd.prog 55 #[.slice A n c] w (fun ev w' => ev = Ending.returned (Value.tuple #[.int .u64 (v : Int), .int .i64 (m : Int), .nilIface]) ∧ w = w') := hrv.mono fun ev w' ⟨h1, h2⟩ => ⟨h1, h2⟩
    have HRV := Lib.hid hrv2
    simp only [if_true] at hL
    have hmn : m ≤ n := by omega
    clear hrv hrv2 hlen hlk hlt
    by_cases h0 : most < 0
    · rw [if_pos (.inl h0)] at hL
      have hE : e = 12 := by simpa using (congrArg (fun r => r.2.2) hL).symm
      subst hE
      have Hl := Lib.hid hl; clear hl hL
      go_enter Tryd.func56, Tryd.ntmps56
      go_wp2_with (go_at_call 55; refine HRV.out.mono ?_; rintro e1 _ ⟨rfl, rfl⟩)
      go_ret3
      exact ⟨rfl, rfl⟩
    · obtain ⟨q, rfl⟩ := Int.eq_ofNat_of_zero_le (show 0 ≤ most by omega)
      by_cases h2 : q < v
      · rw [if_pos (.inr (by omega))] at hL
        have hE : e = 12 := by simpa using (congrArg (fun r => r.2.2) hL).symm
        subst hE
        have Hl := Lib.hid hl; clear hl hL
        go_enter Tryd.func56, Tryd.ntmps56
        go_wp2_with (go_at_call 55; refine HRV.out.mono ?_; rintro e1 _ ⟨rfl, rfl⟩)
        go_ret3
        exact ⟨rfl, rfl⟩
      · rw [if_neg (by omega)] at hL
        by_cases h3 : l.length - m < v
        · rw [if_pos h3] at hL
          have hE : e = 2 := by simpa using (congrArg (fun r => r.2.2) hL).symm
          subst hE
          have h3' : ((n : Int) - (m : Int)) < (v : Int) := by omega
          have Hl := Lib.hid hl; clear hl h3 hL
          go_enter Tryd.func56, Tryd.ntmps56
          go_wp2_with (go_at_call 55; refine HRV.out.mono ?_; rintro e1 _ ⟨rfl, rfl⟩)
          go_ret3
          exact ⟨rfl, rfl⟩
        · rw [if_neg h3] at hL
          exact absurd (by simpa using (congrArg (fun r => r.2.2) hL).symm) he
  · rw [if_neg he1] at hL
    have hE : e = e1 := by simpa using (congrArg (fun r => r.2.2) hL).symm
    subst hE
    have hrv2 : Calls Tryd.prog 55 #[.slice A n c] w (fun ev w' => ev = Ending.returned (Value.tuple #[.int .u64 (v : Int), .int .i64 (m : Int), .iface 44 (.int .i64 (e : Int))]) ∧ w = w') := hrv.mono fun ev w' ⟨h1, h2⟩ => ⟨by rw [h1]; simp [lookV, look3, he], h2⟩
    have HRV := Lib.hid hrv2
    have Hl := Lib.hid hl
    clear hrv hrv2 hlen hlk hl hlt hL
    go_enter Tryd.func56, Tryd.ntmps56
    go_wp2_with (go_at_call 55; refine HRV.out.mono ?_; rintro e1 _ ⟨rfl, rfl⟩)
    go_ret3
    exact ⟨rfl, rfl⟩

def aBlob (A : Option Addr) (c m v : Nat) : Value := .tuple #[.slice (if c = m then A else Option.map (fun x => x.add m) A) v (c - m), .int .i64 ((m : Int) + (v : Int)), .nilIface]
set_option maxHeartbeats 1000000 in
theorem readBlob_ok {w : World} {B : Nat} {A : Option Addr} {n : Nat} {l : List Nat} (c q m v : Nat) (hr : Reads w B 1 A n (bs l)) (hby : ∀ b ∈ l, b < 256) (hn : n ≤ 140737488355328) (hnc : n ≤ c) (hm2 : q ≤ 9223372036854775807)
    (hlk : lookF 0 0 l = (v, m, 0)) (hvq : v ≤ q) (hroom : m + v ≤ n) :
    Calls Tryd.prog 56 #[.slice A n c, .int .i64 (q : Int)] w fun ev w' => ev = .returned (aBlob A c m v) ∧ w = w' := by
  have hrv := readVar_any c hr hby hn
  rw [hlk] at hrv
  have hrv2 : Calls Tryd.prog 55 #[.slice A n c] w (fun ev w' => ev = Ending.returned (Value.tuple #[.int .u64 (v : Int), .int .i64 (m : Int), .nilIface]) ∧ w = w') := hrv.mono fun ev w' ⟨h1, h2⟩ => ⟨h1, h2⟩
  have HRV := Lib.hid hrv2
  clear hrv hrv2 hlk
  have h2' : ¬ q < v := by omega
  have h3' : ¬ ((n : Int) - (m : Int)) < (v : Int) := by omega
  have hbd : (m : Int) + (v : Int) ≤ (c : Int) := by omega
  go_enter Tryd.func56, Tryd.ntmps56
  go_wp2_with (go_at_call 55; refine HRV.out.mono ?_; rintro e1 _ ⟨rfl, rfl⟩)
  all_goals
    go_ret3
    refine ⟨ret_of ?_, rfl⟩
    unfold aBlob
    first
      | (have hca : c = m := by assumption
         subst hca
         rw [if_pos rfl, Nat.sub_self]
         rfl)
      | (have hca : ¬ c = m := by assumption
         rw [if_neg hca]
         rfl)

theorem readBlob_all {B : Nat} {A : Option Addr} {n : Nat} {l : List Nat} (c q m v : Nat) (hby : ∀ b ∈ l, b < 256) (hn : n ≤ 140737488355328) (hnc : n ≤ c) (hm2 : q ≤ 9223372036854775807)
    (hlk : lookF 0 0 l = (v, m, 0)) (hvq : v ≤ q) (hroom : m + v ≤ n) : ∃ X c2,
    (∀ W : World, Reads W B 1 A n (bs l) → Calls Tryd.prog 56 #[.slice A n c, .int .i64 (q : Int)] W fun ev w' => ev = Ending.returned (Value.tuple #[.slice X v c2, .int .i64 ((m : Int) + (v : Int)), .nilIface]) ∧ W = w') ∧
    (∀ W : World, Reads W B 1 A n (bs l) → Reads W B 1 X v (bs ((l.take (m + v)).drop m))) := by
  refine ⟨if c = m then A else Option.map (fun x => x.add m) A, c - m, fun W hW => readBlob_ok c q m v hW hby hn hnc hm2 hlk hvq hroom, fun W hW => ?_⟩
  have := (hW.cut (k := m) (by omega) hnc).fore (k := v) (by omega)
  rw [List.drop_take, Nat.add_sub_cancel_left]
  simpa [bs_drop, bs_take] using this

set_option maxHeartbeats 1000000 in
theorem blob_ok {w : World} {g : Nat} {A : Option Addr} {n c at_ : Nat} {l : List Nat} (q m v : Nat) (hR : Rd w g A n c at_ .nilIface l) (hm2 : q ≤ 9223372036854775807) (hlk : lookF 0 0 (l.drop at_) = (v, m, 0)) (hvq : v ≤ q) (hroom : at_ + (m + v) ≤ n) :
    Calls Tryd.prog 27 #[.pointer (some ⟨g, 0, none⟩), .int .i64 (q : Int)] w
      fun e w' => Bytes (((l.drop at_).take (m + v)).drop m) e w' ∧ RdTo w g l (at_ + (m + v)) none w' := by
  have hc0 := hR.blk.cell 0
  have hc := hR.blk.cell 1
  simp only [List.getElem?_toArray, List.getElem?_cons_succ, List.getElem?_cons_zero] at hc hc0
  have hz := hR.size
  have hp := hR.place
  have hcap := hR.cap
  have hf := hR.blk.frozen 1
  have hlt := hR.blk.lt
  have hcut : Reads w g 1 (if c = at_ then A else Option.map (fun x => x.add at_) A) (n - at_) (bs (l.drop at_)) := by
    have := hR.reads.cut hp hcap
    simpa [bs_drop] using this
  have hby : ∀ b ∈ l.drop at_, b < 256 := fun b hb => hR.byte b (List.mem_of_mem_drop hb)
  obtain ⟨X, c2, hrb, hrx⟩ := readBlob_all (B := g) (A := if c = at_ then A else Option.map (fun x => x.add at_) A) (n := n - at_) (c - at_) q m v hby (by omega) (by omega) hm2 hlk hvq (by omega)
  have hx := hrx w hcut
  have HRB := Lib.hid hrb
  clear hrb hrx hlk hby
  go_enter Tryd.func27, Tryd.ntmps27
  go_wp2_with (go_at_call 52; refine (stopped_ok hR).mono ?_; rintro e w1 ⟨rfl, rfl⟩)
  go_quiet ((go_at_call 56; first | exact quiet_same0 (HRB.out _ (hcut.drewN _)) | exact quiet_same (HRB.out _ (hcut.drewN _))))
  go_wp2_with fail
  all_goals
    have hto : RdTo w g l (at_ + (m + v)) none ((w.drewN nq).setCell ⟨g, 1, none⟩ (.int .i64 ((at_ : Int) + ((m : Int) + (v : Int))))) :=
      RdS.goes hR (x := none) rfl (m + v) hroom ((Drawn.one w nq).below (Below.refl w.heap.size w))
    have hx1 : Reads ((w.drewN nq).setCell ⟨g, 1, none⟩ (.int .i64 ((at_ : Int) + ((m : Int) + (v : Int))))) ((w.drewN nq).setCell ⟨g, 1, none⟩ (.int .i64 ((at_ : Int) + ((m : Int) + (v : Int))))).heap.size 1 X v (bs (((l.drop at_).take (m + v)).drop m)) :=
      ((hx.drewN nq).setCell (p := ⟨g, 1, none⟩) (Nat.le_refl _) _).more (by simp; omega)
    refine (clone_any X v c2 _ _ hx1 (bs_one _) (by omega)).mono ?_
    rintro e2 w2 ⟨v2, rfl, hown2, hb2⟩
    obtain ⟨A2, c3, rfl, _, _, hr2⟩ := own_slice hown2
    go_wp2_with fail
    go_ret
    exact ⟨⟨A2, v, c3, rfl, hr2⟩, hto.1.next hb2, only_below hto.2 hb2⟩

theorem blob_is {w : World} {g : Nat} {l : List Nat} {at_ : Nat} {x : Option (Int × Nat)} (most : Int) (h : RdS w g l at_ x) (hm1 : -9223372036854775808 ≤ most) (hm2 : most ≤ 9223372036854775807) :
    Calls Tryd.prog 27 #[.pointer (some ⟨g, 0, none⟩), .int .i64 most] w
      fun e w' => Bytes (blobS l at_ x most).1 e w' ∧ RdTo w g l (blobS l at_ x most).2.1 (blobS l at_ x most).2.2 w' := by
  cases x with
  | some x =>
    go_enter Tryd.func27, Tryd.ntmps27
    go_wp2_with (go_at_call 52; refine (stopped_err h).mono ?_; rintro e w1 ⟨rfl, rfl⟩)
    go_ret
    exact ⟨⟨none, 0, 0, rfl, Reads.none_⟩, RdTo.same h (Drawn.refl w)⟩
  | none =>
    obtain ⟨A, n, c, err, hR, rfl⟩ := h
    have hln := hR.length
    have hp := hR.place
    by_cases he : (lookB (l.drop at_) most).2.2 = 0
    · have hS : blobS l at_ none most = (((l.drop at_).take (lookB (l.drop at_) most).2.1).drop (lookB (l.drop at_) most).1, at_ + (lookB (l.drop at_) most).2.1, none) := by unfold blobS; simp only [he, if_true]
      rw [hS]
      unfold lookB at he ⊢
      rcases hlk : lookF 0 0 (l.drop at_) with ⟨v, m, e1⟩
      have hlen := look_len (l.drop at_) 0 0
      rw [hlk] at he hlen
      by_cases he1 : e1 = 0
      · subst he1
        simp only [if_true] at he ⊢
        by_cases h0 : most < 0 ∨ most < (v : Int)
        · rw [if_pos h0] at he; cases he
        · rw [if_neg h0] at he ⊢
          by_cases h3 : (l.drop at_).length - m < v
          · rw [if_pos h3] at he; cases he
          · rw [if_neg h3]
            obtain ⟨q, rfl⟩ := Int.eq_ofNat_of_zero_le (show 0 ≤ most by omega)
            have hl2 : m ≤ 0 + (l.drop at_).length ∧ 0 < m := hlen rfl
            rw [List.length_drop] at h3 hl2
            exact blob_ok q m v hR (by omega) hlk (by omega) (by omega)
      · rw [if_neg he1] at he; exact absurd he he1
    · have hS : blobS l at_ none most = ([], at_, some (((lookB (l.drop at_) most).2.2 : Int), at_)) := by unfold blobS; simp only [he, if_false]
      rw [hS]
      obtain ⟨e, hE⟩ : ∃ e, e = (lookB (l.drop at_) most).2.2 := ⟨_, rfl⟩
      rw [← hE] at he ⊢
      have hL : lookB (l.drop at_) most = (0, 0, e) := by
        rw [hE] at he ⊢
        unfold lookB at he ⊢
        split
        · split
          · rfl
          · split
            · rfl
            · rename_i a b c
              rw [if_pos a, if_neg b, if_neg c] at he
              exact absurd rfl he
        · rfl
      have hc0 := hR.blk.cell 0
      have hc := hR.blk.cell 1
      simp only [List.getElem?_toArray, List.getElem?_cons_succ, List.getElem?_cons_zero] at hc hc0
      have hz := hR.size
      have hcap := hR.cap
      have hcut : Reads w g 1 (if c = at_ then A else Option.map (fun x => x.add at_) A) (n - at_) (bs (l.drop at_)) := by
        have := hR.reads.cut hp hcap
        simpa [bs_drop] using this
      have hrb : ∀ W : World, Reads W g 1 (if c = at_ then A else Option.map (fun x => x.add at_) A) (n - at_) (bs (l.drop at_)) → Calls Tryd.prog 56 #[.slice (if c = at_ then A else Option.map (fun x => x.add at_) A) (n - at_) (c - at_), .int .i64 most] W (fun ev w' => ev = Ending.returned (Value.tuple #[.slice none 0 0, .int .i64 0, .iface 44 (.int .i64 (e : Int))]) ∧ W = w') :=
        fun W hW => readBlob_err (c - at_) most e hW (fun b hb => hR.byte b (List.mem_of_mem_drop hb)) (by omega) hm1 hm2 hL he
      have HRB := Lib.hid hrb
      clear hrb hL hE hS hln
      go_enter Tryd.func27, Tryd.ntmps27
      go_wp2_with (go_at_call 52; refine (stopped_ok hR).mono ?_; rintro e w1 ⟨rfl, rfl⟩)
      go_quiet ((go_at_call 56; first | exact quiet_same0 (HRB.out _ (hcut.drewN _)) | exact quiet_same (HRB.out _ (hcut.drewN _))))
      go_wp2_with (go_at_call 53; refine (stop_any (e : Int) (hR.drewN _)).mono ?_; rintro e2 w2 ⟨rfl, hto1, hto2⟩)
      all_goals
        go_ret
        exact ⟨⟨none, 0, 0, rfl, Reads.none_⟩, hto1, (only_drewN (World.grownBy.refl w _) _).trans hto2⟩
end Go.Proofs.YtieknhhhcjdbnaaDoor
