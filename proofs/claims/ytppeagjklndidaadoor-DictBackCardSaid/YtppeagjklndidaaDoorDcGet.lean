/- Contract of package dict's Get: the numbers in new memory, or the error's number. -/
import Derived.Test.YtppeagjklndidaaDoorJ42
import Derived.Test.YtppeagjklndidaaDoorDcReadL
import Derived.Test.YtppeagjklndidaaDoorJ31
namespace Go.Proofs.YtppeagjklndidaaDoor
open Go.RowKit
set_option linter.unusedVariables false
set_option linter.unusedSimpArgs false
set_option maxRecDepth 100000

theorem dcGet_no (A : Option Addr) (n c : Nat) (b : List Nat) (k : Int) (w : World) (h : k < 0 ∨ 65536 < k) :
    Calls Tryd.prog 7 #[.slice A n c, .int .i64 k] w (NewLE w (dcG b k) (dcE b k)) := by
  obtain ⟨h1, h2⟩ := dcE_bad (b := b) h
  rw [h1, h2]
  have HC := Lib.hid (pcGetI_no A n c k (.func (.func 21) #[] #[]) w h)
  clear h1 h2 h
  go_enter Tryd.func7, Tryd.ntmps7
  go_wp2_with fail
  refine HC.out.mono ?_
  rintro e w1 ⟨rfl, rfl⟩
  go_wp2_with fail
  go_ret2
  exact ⟨.slice none 0 0, rfl, own_nil _ _ _ _, Below.refl _ _⟩
theorem dcS_fit {b : List Nat} (hb : ∀ x ∈ b, x < 256) {N : Nat} (hN : N ≤ 65536) (hE : dcE b (N : Int) = 0) : (dcS b N).1.length = N ∧ ∀ a ∈ (dcS b N).1, a < (rdl b N).2.length := by
  obtain ⟨z1, z2, z3⟩ := dcE_zero hN hE
  obtain ⟨h1, h2, h3, _⟩ := dcG_rest hb hN z2 z3 hE
  obtain ⟨e1, e2, e3⟩ := ld_place hb z3
  have hr : rdl b N = ((ldS b (vv b 0)).1, ldL b (vv b 0)) := by unfold rdl; rw [if_neg z2]
  have hP : (dcS b N).1 = unpackS (b.drop ((vst b (vv b 0 + 1)).1 + 1)) (N : Int) (blen (vv b 0 - 1) : Int) := by
    unfold dcS
    rw [hr]
    simp only
    rw [e1, ldL_length]
    simp only
    rw [rp_rest b _ N _ h1]
  obtain ⟨_, _, p3, _⟩ := pack_again (b.drop ((vst b (vv b 0 + 1)).1 + 1)) (N : Int) (blen (vv b 0 - 1) : Int) (fun x hx => hb x (List.mem_of_mem_drop hx)) h2
  obtain ⟨w1, _⟩ := whE_zero h3
  rw [hP, hr]
  simp only
  rw [ldL_length]
  exact ⟨by rw [p3]; simp, w1⟩
theorem rdl_length {b : List Nat} {N : Nat} (hN : N ≤ 65536) : (rdl b N).2.length ≤ 65536 := by
  unfold rdl
  split
  · simp
  · rename_i h; rw [ldL_length]; omega
theorem dcGet_ok (A : Option Addr) (n c N : Nat) (b : List Nat) (w : World) (hr : Reads w w.heap.size 1 A n (bs b)) (hb : ∀ x ∈ b, x < 256) (hn : n ≤ 140737488355328) (hN : N ≤ 65536) (hmet : Met w) :
    Calls Tryd.prog 7 #[.slice A n c, .int .i64 (N : Int)] w (NewLE w (dcG b (N : Int)) (dcE b (N : Int))) := by
  have hE : dcE b (N : Int) = (endS b (dcS b N).2.1 (dcS b N).2.2).1 := by
    unfold dcE
    rw [if_neg (by omega), Int.toNat_natCast]
  have hG : dcG b (N : Int) = if dcE b (N : Int) = 0 then (dcS b N).1.map (fun a => ((rdl b N).2[a]?).getD 0) else [] := by
    unfold dcG
    rw [Int.toNat_natCast]
  have HC := Lib.hid (pcGetI_any A n c N b (rdl b N).1.1 (rdl b N).1.2 (fun X => X = zs (rdl b N).2) (dcE b (N : Int)) (zs (dcG b (N : Int))) w hr hb hn hN hmet
    (fun w g _ h => (readL_any N h hN).mono fun e w' ⟨v, h1, h2, h3⟩ => ⟨v, zs (rdl b N).2, h1, by rw [zs_length]; exact h2, rfl, h3⟩)
    (fun X hX => by
      subst hX
      rw [zs_length]
      refine ⟨rdl_length hN, hE.symm, fun h0 => ?_⟩
      obtain ⟨f1, f2⟩ := dcS_fit hb hN h0
      refine ⟨f1, ?_, fun k p hp => ?_⟩
      · rw [zs_length, hG, if_pos h0, List.length_map, f1]
      · have hpX : p < (rdl b N).2.length := f2 p (List.mem_of_getElem? hp)
        have hz : (rdl b N).2[p]? = some (rdl b N).2[p] := List.getElem?_eq_getElem hpX
        refine ⟨(rdl b N).2[p], zs_get hz, zs_get ?_⟩
        rw [hG, if_pos h0, List.getElem?_map, show (dcS b N).1[k]? = some p from hp]
        simp [hz])
    (fun h0 => by rw [hG, if_neg h0]; rfl))
  clear hE hG
  go_enter Tryd.func7, Tryd.ntmps7
  go_wp2_with fail
  refine HC.out.mono ?_
  rintro e w1 ⟨v, rfl, hown, hb1⟩
  go_wp2_with fail
  go_ret2
  exact ⟨v, rfl, by rw [zs_length] at hown; exact hown, hb1⟩
theorem dcGet_any (A : Option Addr) (n c : Nat) (k : Int) (b : List Nat) (w : World) (hr : Reads w w.heap.size 1 A n (bs b)) (hb : ∀ x ∈ b, x < 256) (hn : n ≤ 140737488355328) (hmet : Met w) :
    Calls Tryd.prog 7 #[.slice A n c, .int .i64 k] w (NewLE w (dcG b k) (dcE b k)) := by
  by_cases h : k < 0 ∨ 65536 < k
  · exact dcGet_no A n c b k w h
  · obtain ⟨N, rfl⟩ : ∃ N : Nat, k = (N : Int) := ⟨k.toNat, by omega⟩
    exact dcGet_ok A n c N b w hr hb hn (by omega) hmet
end Go.Proofs.YtppeagjklndidaaDoor
