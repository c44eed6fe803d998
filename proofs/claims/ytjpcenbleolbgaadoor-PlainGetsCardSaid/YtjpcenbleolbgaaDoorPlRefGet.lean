/- The document's reading of the plain form: the numbers, or the error's number. -/
import Derived.Test.YtjpcenbleolbgaaDoorPlRead
import Derived.Test.YtjpcenbleolbgaaDoorRfFar
import Derived.Test.YtjpcenbleolbgaaDoorRefVar
import Derived.Test.YtjpcenbleolbgaaDoorRefEnd
import Derived.Test.YtjpcenbleolbgaaDoorRefZag
import Derived.Test.YtjpcenbleolbgaaDoorI64Row
namespace Go.Proofs.YtjpcenbleolbgaaDoor
open Go.RowKit
set_option linter.unusedVariables false
set_option linter.unusedSimpArgs false
set_option maxRecDepth 100000

theorem rgetE_bad {b : List Nat} {k : Int} (h : k < 0 ∨ 65536 < k) : getE b k = 1 ∧ getS b k = [] := by
  have hE : getE b k = 1 := by unfold getE; rw [if_pos h]
  exact ⟨hE, by unfold getS; rw [if_neg (by omega)]⟩
theorem refPlGet_no (A : Option Addr) (n c : Nat) (b : List Nat) (k : Int) (w : World) (h : k < 0 ∨ 65536 < k) :
    Calls Tryd.prog 7 #[.slice A n c, .int .i64 k] w (NewLE w (getS b k) (getE b k)) := by
  obtain ⟨h1, h2⟩ := rgetE_bad (b := b) h
  rw [h1, h2]
  clear h1 h2
  by_cases hk : k < 0
  · clear h
    go_enter Tryd.func7, Tryd.ntmps7
    go_wp2_with fail
    go_ret2
    exact ⟨.slice none 0 0, rfl, own_nil _ _ _ _, Below.refl _ _⟩
  · have d1 : decide (k < 0) = false := by simp; omega
    have h2 : 65536 < k := by omega
    clear h
    go_enter Tryd.func7, Tryd.ntmps7
    go_wp2_with fail
    go_ret2
    exact ⟨.slice none 0 0, rfl, own_nil _ _ _ _, Below.refl _ _⟩
theorem rvar_k {w : World} {g : Nat} {b : List Nat} {k : Nat} (h : RfS w g b (vst b k).1 (vst b k).2) :
    Calls Tryd.prog 16 #[.pointer (some ⟨g, 0, none⟩)] w fun e w' => e = .returned (.int .u64 (vv b k : Int)) ∧ RfS w' g b (vst b (k + 1)).1 (vst b (k + 1)).2 ∧ w.grownBy w' (some g) := rvar_is h
/-- What stands behind so many rounds: the reader, the numbers read. -/
def Read8 (w wr : World) (b : List Nat) (k : Nat) (out : Value) : Prop :=
  RfS wr w.heap.size b (vst b k).1 (vst b k).2 ∧ wr.ownsRow (w.heap.size + 1) 2 1 out k (zs (getL b k)) ∧ Below w.heap.size w wr
set_option maxHeartbeats 2000000 in
theorem refPlGet_ok (A : Option Addr) (n c N : Nat) (b : List Nat) (w : World) (hr : Reads w w.heap.size 1 A n (bs b)) (hb : ∀ x ∈ b, x < 256) (hnc : n ≤ c) (hn : n ≤ 140737488355328) (hN : N ≤ 65536) :
    Calls Tryd.prog 7 #[.slice A n c, .int .i64 (N : Int)] w (NewLE w (getS b (N : Int)) (getE b (N : Int))) := by
  obtain ⟨i1, hi1, hy0, hy1, hy2⟩ := info_parts info_i64
  have d1 : decide ((N : Int) < 0) = false := by simp
  have d2 : decide ((65536 : Int) < (N : Int)) = false := by simp; omega
  have hS1 := rf_new hr hnc hn hb
  have HE : Hid (getE b (N : Int) = (endS b (vst b N).1 (vst b N).2).1) := by
    unfold getE
    rw [if_neg (by omega), Int.toNat_natCast]
    try exact Lib.hid rfl
  have HS : Hid (getS b (N : Int) = if getE b (N : Int) = 0 then getL b N else []) := by
    unfold getS
    rw [Int.toNat_natCast]
    try exact Lib.hid rfl
  have HB := Lib.hid hb
  clear hb
  go_enter Tryd.func7, Tryd.ntmps7
  go_wp2_with fail
  go_loopw [7, 8] (fun s7 s8 wr => ∃ k : Nat, k ≤ N ∧ s8 = .int .i64 (k : Int) ∧ Read8 w wr b k s7) (fun _ i _ => N - (intOf i).toNat)
  case atStart => exact ⟨0, by omega, rfl, hS1, own_nil _ _ _ _, (Below.refl _ _).alloc (Nat.le_refl _) _⟩
  case round =>
    clear hS1
    obtain ⟨k, hk, rfl, hS, hown, hb⟩ := hrel
    have hc2 := hS.cellE
    have hok := vst_ok b k
    by_cases hgo : k < N ∧ (vst b k).2 = none
    · obtain ⟨hlt, hx⟩ := hgo
      have hv := vv_lt HB.out k
      have hc : wr.cell? ⟨w.heap.size, 2, none⟩ = some (.int .i64 0) := by rw [hc2, hx]; rfl
      clear hc2 hx hok
      go_wp2_with fail
      refine (rvar_k hS).mono ?_
      rintro e w3 ⟨rfl, hS3, hg3⟩
      have hown3 := hown.kept hg3 (by
        cases ho : u7.ownBlock with
        | none => exact .inl rfl
        | some j => refine .inr fun e => ?_
                    injection e with e
                    have := (hown.lt j ho).1
                    omega)
      have hb3 : Below w.heap.size w w3 := hb.grown hg3 hb.size (fun j hj => by injection hj with hj; omega)
      have hsz : w.heap.size + 1 ≤ w3.heap.size := by have := hS3.lt; omega
      clear hS hown hb hc hg3
      go_wp2_with fail
      refine (refZag_any (vv b k) w3 hv).mono ?_
      rintro e w' ⟨rfl, rfl⟩
      go_wp2_with (at_builtin
                   refine wpList_append_any _ rfl (.tmp 32) (.tmp 36) _ rfl (w.heap.size + 1) 2 i1 _ 1 8 Tryd.underlying24 hi1 hy0 hy1 hy2 rfl (by omega) u7 k (zs (getL b k)) rfl
                     (hown3.alloc _) (w3.heap.size + 1) (some ⟨w3.heap.size, 0, none⟩) 1 1 [.int .i64 (zagI (vv b k : Int))] rfl (Reads.new w3 _ _) (one_int _ _) (by unfold maxLen; omega) (by omega) (by simp; omega) ?_
                   intro v4 w4 hown4 hg4 hat4)
      go_round
      case rel =>
        refine ⟨k + 1, by omega, by go_num, (hS3.alloc _).grown hg4 (fun q hq => by have := (hown3.lt q hq).1; omega), ?_, below_app hb3 (own_base hown3 (by omega)) hb3.size hg4⟩
        rw [getL_succ, ← zs_snoc]
        exact hown4
      case measure => simp [intOf]; omega
    · have hend : vst b N = vst b k ∧ (k = N ∨ (endS b (vst b N).1 (vst b N).2).1 ≠ 0) := by
        rcases Nat.lt_or_ge k N with h1 | h1
        · cases hx : (vst b k).2 with
          | none => exact absurd ⟨h1, hx⟩ hgo
          | some y =>
            have e1 := vst_stop hx (N - k)
            rw [show k + (N - k) = N by omega] at e1
            refine ⟨e1, .inr ?_⟩
            rw [e1, hx, endS_some _ _ _ (hok y hx)]
            exact hok y hx
        · obtain rfl : k = N := by omega
          exact ⟨rfl, .inl rfl⟩
      rw [← hend.1] at hS
      obtain ⟨r, hr0⟩ : ∃ r, r = (endS b (vst b N).1 (vst b N).2).1 := ⟨_, rfl⟩
      obtain ⟨o, ho⟩ : ∃ o : Int, o = ((endS b (vst b N).1 (vst b N).2).2 : Int) := ⟨_, rfl⟩
      rw [← hr0] at HE
      have hlast := hend.2
      rw [← hr0] at hlast
      have HL := Lib.hid hlast
      have hcall : Calls Tryd.prog 17 #[.pointer (some ⟨w.heap.size, 0, none⟩)] wr fun e w' => e = .returned (.tuple #[.int .i64 r, .int .i64 o]) ∧ Drawn wr w' := by
        rw [hr0, ho]; exact rend_is hS
      have HC := Lib.hid hcall
      have hx2 : k < N → ((errS (vst b k).2).1 == 0) = false := by
        intro h1
        cases hx : (vst b k).2 with
        | none => exact absurd ⟨h1, hx⟩ hgo
        | some y => have := hok y hx; simp [errS, this]
      obtain ⟨q, hq⟩ : ∃ q, q = (errS (vst b k).2).1 := ⟨_, rfl⟩
      rw [← hq] at hc2 hx2
      clear hq ho hr0 hlast hend hok hgo hcall hS
      have fin : ∀ wx : World, Drawn wr wx → ∀ v, (r ≠ 0 ∧ v = .slice none 0 0 ∨ r = 0 ∧ v = u7) → NewLE w (getS b (N : Int)) (getE b (N : Int)) (.returned (.tuple #[v, .int .i64 r])) wx := by
        rintro wx hd v hv
        rw [HS.out, HE.out]
        rcases hv with ⟨h0, rfl⟩ | ⟨h0, rfl⟩
        · rw [if_neg h0]
          exact ⟨_, rfl, own_nil _ _ _ _, hd.below hb⟩
        · subst h0
          obtain rfl : k = N := HL.out.resolve_right (fun h => h rfl)
          rw [if_pos rfl]
          have hbx := hd.below hb
          obtain ⟨q2, rfl⟩ := hd
          refine ⟨_, rfl, ?_, hbx⟩
          rw [getL_length]
          exact own_base (own_below hown (Drawn.below (Drawn.one wr q2) (Below.refl _ _))) (by omega)
      have FIN := Lib.hid fin
      clear fin hown HE HS
      by_cases hlt : k < N
      case' pos => have hx3 := hx2 hlt
      case' neg => have hx3 := hlt
      all_goals
        clear hx2
        go_wp2_with fail
        refine HC.out.mono ?_
        rintro e wx ⟨rfl, hdx⟩
        by_cases h0 : r = 0
        · subst h0
          go_wp2_with fail
          go_ret2
          exact FIN.out wx hdx _ (.inr (by first | exact ⟨trivial, rfl⟩ | exact ⟨rfl, rfl⟩))
        · have q1 : (r == 0) = false := by simp [h0]
          have q2 : (r != 0) = true := by simp [h0]
          have H0 := Lib.hid h0
          clear h0
          go_wp2_with fail
          go_ret2
          exact FIN.out wx hdx _ (.inl ⟨H0.out, rfl⟩)
theorem refPlGet_any (A : Option Addr) (n c : Nat) (k : Int) (b : List Nat) (w : World) (hr : Reads w w.heap.size 1 A n (bs b)) (hb : ∀ x ∈ b, x < 256) (hnc : n ≤ c) (hn : n ≤ 140737488355328) :
    Calls Tryd.prog 7 #[.slice A n c, .int .i64 k] w (NewLE w (getS b k) (getE b k)) := by
  by_cases h : k < 0 ∨ 65536 < k
  · exact refPlGet_no A n c b k w h
  · obtain ⟨N, rfl⟩ : ∃ N : Nat, k = (N : Int) := ⟨k.toNat, by omega⟩
    exact refPlGet_ok A n c N b w hr hb hnc hn (by omega)
end Go.Proofs.YtjpcenbleolbgaaDoor
