/- Texts joined: DcGet SameZ. -/
import Derived.Test.YtkcbmipcgjheoaaDoorJ29
import Derived.Test.YtkcbmipcgjheoaaDoorJ30
import Derived.Test.YtkcbmipcgjheoaaDoorJ20
import Derived.Deep.QuietTactic
import Derived.BigQuiet
import Derived.Test.YtkcbmipcgjheoaaDoorJ10
import Derived.Test.YtkcbmipcgjheoaaDoorJ2
/- Contract of package dict's Get: the numbers in new memory, or the error's number. -/
namespace Go.Proofs.YtkcbmipcgjheoaaDoor
open Go.RowKit
set_option linter.unusedVariables false
set_option linter.unusedSimpArgs false
set_option maxRecDepth 100000

theorem dcGet_no (A : Option Addr) (n c : Nat) (b : List Nat) (k : Int) (w : World) (h : k < 0 ∨ 65536 < k) :
    Calls Tryd.prog 6 #[.slice A n c, .int .i64 k] w (NewLE w (dcG b k) (dcE b k)) := by
  obtain ⟨h1, h2⟩ := dcE_bad (b := b) h
  rw [h1, h2]
  clear h1 h2
  by_cases hk : k < 0
  · clear h
    go_enter Tryd.func6, Tryd.ntmps6
    go_wp2_with fail
    go_ret2
    exact ⟨.slice none 0 0, rfl, own_nil _ _ _ _, Below.refl _ _⟩
  · have d1 : decide (k < 0) = false := by simp; omega
    have h2 : 65536 < k := by omega
    clear h
    go_enter Tryd.func6, Tryd.ntmps6
    go_wp2_with fail
    go_ret2
    exact ⟨.slice none 0 0, rfl, own_nil _ _ _ _, Below.refl _ _⟩
theorem dcS_fit {b : List Nat} (hb : ∀ x ∈ b, x < 256) {N : Nat} (hN : N ≤ 65536) (hE : dcE b (N : Int) = 0) : (dcS b N).1.length = N ∧ ∀ a ∈ (dcS b N).1, a < (rdl b N).2.length := by
  obtain ⟨z1, z2, z3⟩ := dcE_zero hN hE
  obtain ⟨h1, h2, h3, _⟩ := dcG_rest hb hN z2 z3 hE
  obtain ⟨e1, e2, e3⟩ := ld_place hb z3
  have hr : rdl b N = ((ldS b (vv b 0)).1, ldL b (vv b 0)) := by unfold rdl; rw [if_neg z2]
  have hP : (dcS b N).1 = unpackS (b.drop ((vst b (vv b 0 + 1)).1 + 1)) (N : Int) (blen (vv b 0 - 1) : Int) := by
    unfold dcS
    rw [hr]
    simp only
    rw [e1, ldL_length]
    simp only
    rw [rp_rest b _ N _ h1]
  obtain ⟨_, _, p3, _⟩ := pack_again (b.drop ((vst b (vv b 0 + 1)).1 + 1)) (N : Int) (blen (vv b 0 - 1) : Int) (fun x hx => hb x (List.mem_of_mem_drop hx)) h2
  obtain ⟨w1, _⟩ := whE_zero h3
  rw [hP, hr]
  simp only
  rw [ldL_length]
  exact ⟨by rw [p3]; simp, w1⟩
theorem rdl_length {b : List Nat} {N : Nat} (hN : N ≤ 65536) : (rdl b N).2.length ≤ 65536 := by
  unfold rdl
  split
  · simp
  · rename_i h; rw [ldL_length]; omega
set_option maxHeartbeats 2000000 in
theorem dcGet_ok (A : Option Addr) (n c N : Nat) (b : List Nat) (w : World) (hr : Reads w w.heap.size 1 A n (bs b)) (hb : ∀ x ∈ b, x < 256) (hn : n ≤ 140737488355328) (hN : N ≤ 65536) (hmet : Met w) :
    Calls Tryd.prog 6 #[.slice A n c, .int .i64 (N : Int)] w (NewLE w (dcG b (N : Int)) (dcE b (N : Int))) := by
  have d1 : decide ((N : Int) < 0) = false := by simp
  have d2 : decide ((65536 : Int) < (N : Int)) = false := by simp; omega
  have HE : Hid (dcE b (N : Int) = (endS b (dcS b N).2.1 (dcS b N).2.2).1) := by
    unfold dcE
    rw [if_neg (by omega), Int.toNat_natCast]
    try exact Lib.hid rfl
  have HG : Hid (dcG b (N : Int) = if dcE b (N : Int) = 0 then (dcS b N).1.map (fun a => ((rdl b N).2[a]?).getD 0) else []) := by
    unfold dcG
    rw [Int.toNat_natCast]
    try exact Lib.hid rfl
  have HFIT := Lib.hid (fun h : dcE b (N : Int) = 0 => dcS_fit hb hN h)
  have hXl := rdl_length (b := b) hN
  have HB := Lib.hid hb
  have HRP : Hid (∀ (w : World) (g : Nat), RdS w g b (rdl b N).1.1 (rdl b N).1.2 → Calls Tryd.prog 14 #[.pointer (some ⟨g, 0, none⟩), .int .i64 (N : Int), .int .i64 ((rdl b N).2.length : Int)] w
      fun e w' => ∃ v, e = .returned v ∧ w'.ownsRow w.heap.size 44 1 v (dcS b N).1.length (us (dcS b N).1) ∧ RdTo w g b (dcS b N).2.1 (dcS b N).2.2 w') := Lib.hid fun w g h => places_any N (rdl b N).2.length h hN hXl
  have HRL : Hid (∀ (w : World) (g : Nat), RdS w g b 0 none → Calls Tryd.prog 13 #[.pointer (some ⟨g, 0, none⟩), .int .i64 (N : Int)] w
      fun e w' => ∃ v, e = .returned v ∧ w'.ownsRow w.heap.size 2 1 v (rdl b N).2.length (zs (rdl b N).2) ∧ RdTo w g b (rdl b N).1.1 (rdl b N).1.2 w') := Lib.hid fun w g h => readL_any N h hN
  obtain ⟨X, hX⟩ : ∃ X, X = (rdl b N).2 := ⟨_, rfl⟩
  obtain ⟨P, hP⟩ : ∃ P, P = (dcS b N).1 := ⟨_, rfl⟩
  rw [← hX] at HG HFIT hXl HRP HRL
  rw [← hP] at HG HFIT HRP
  have hPl : P.length ≤ 65536 := by
    rw [hP]; unfold dcS rpS; exact (unpackS_all _ _ _).2
  clear hb hX hP
  go_enter Tryd.func6, Tryd.ntmps6
  go_wp2_with fail
  refine (newReader_any A n c b w hr hn HB.out).mono ?_
  rintro e w1 ⟨g, A1, c1, rfl, hg, hR1, hb1⟩
  have hS1 := rd_new hR1
  have hg1 := hS1.lt
  have hz1 := hb1.size
  clear hR1
  go_wp2_with fail
  refine (HRL.out w1 g hS1).mono ?_
  rintro e w2 ⟨v2, rfl, hown2, hS2, hG2⟩
  obtain ⟨A2, c2, rfl, _, _, _⟩ := own_slice hown2
  have hb2 : Below w.heap.size w w2 := hb1.grown hG2 hb1.size (fun j hj => by injection hj with hj; omega)
  have hz2 := hG2.size
  clear hS1 hb1 hG2
  go_wp2_with fail
  refine (HRP.out w2 g hS2).mono ?_
  rintro e w3 ⟨v3, rfl, hown3, hS3, hG3⟩
  obtain ⟨A3, c3, rfl, _, _, _⟩ := own_slice hown3
  have hb3 : Below w.heap.size w w3 := hb2.grown hG3 hb2.size (fun j hj => by injection hj with hj; omega)
  have hown23 := own_before hown2 hG3 (fun r hr => by injection hr with hr; omega)
  have hm3 := hmet.next hb3
  have hcl := end_is hm3 hS3
  obtain ⟨r, hr0⟩ : ∃ r, r = (endS b (dcS b N).2.1 (dcS b N).2.2).1 := ⟨_, rfl⟩
  obtain ⟨o, ho⟩ : ∃ o : Int, o = ((endS b (dcS b N).2.1 (dcS b N).2.2).2 : Int) := ⟨_, rfl⟩
  rw [← hr0, ← ho] at hcl
  rw [← hr0] at HE
  have HCL := Lib.hid hcl
  clear hr0 ho hcl hS2 hS3 hb2 hG3 hown2 hm3
  go_wp2_with fail
  refine HCL.out.mono ?_
  rintro e w4 ⟨he, hb4⟩
  have he' : e = .returned (.tuple #[.int .i64 r, .int .i64 o]) := he
  subst he'
  clear he HCL
  have hb04 := hb3.trans (hb4.mono hb3.size)
  have hown24 := own_below hown23 hb4
  have hown34 := own_below hown3 hb4
  clear hown23 hown3 hb3 hb4
  by_cases hrz : r = 0
  · subst hrz
    obtain ⟨hlen, hfit⟩ := HFIT.out HE.out
    have hg' := HG.out
    rw [HE.out, if_pos rfl] at hg'
    obtain ⟨Gl, hGl⟩ : ∃ Gl, Gl = P.map (fun a => (X[a]?).getD 0) := ⟨_, rfl⟩
    rw [← hGl] at hg'
    have hXz : (zs Gl).length = N := by rw [zs_length, hGl, List.length_map, hlen]
    have hmk := fun W => run_make_i64 N N (Nat.le_refl _) (by omega) W
    rw [← fillW_zero (zs Gl) (.int .i64 0) N hXz] at hmk
    have HX := Lib.hid hXz; have HGL := Lib.hid hGl; have HG2 := Lib.hid hg'; have HF := Lib.hid hfit
    have r2 := Reads.of_own hown24
    have r3 := Reads.of_own hown34
    have hF0 := Blk.new w4 2 (fillW (zs Gl) (.int .i64 0) 0)
    have hb40 : Below w4.heap.size w4 (w4.alloc (.cells (fillW (zs Gl) (.int .i64 0) 0) 2)) := (Below.refl _ _).alloc (Nat.le_refl _) _
    clear hXz hGl hg' hfit hown24 hown34
    rw [hlen] at r3
    have HLEN := Lib.hid hlen
    rw [hlen]
    go_wp2_with fail
    clear hmk
    go_loopw [42] (fun s42 wr => ∃ k : Nat, k ≤ N ∧ s42 = .int .i64 (k : Int) ∧ Blk wr w4.heap.size 2 (fillW (zs Gl) (.int .i64 0) k) ∧ Below w4.heap.size w4 wr) (fun i _ => N - (intOf i).toNat)
    case atStart => exact ⟨0, Nat.zero_le _, rfl, hF0, hb40⟩
    case round =>
      clear hF0 hb40
      obtain ⟨k, hk, rfl, hF, hbr⟩ := hrel
      by_cases hlt : k < N
      · obtain ⟨ad, u, rfl, _, hu, hc0⟩ := (r3.below hbr).at_ hlt
        obtain ⟨a, ha, rfl⟩ := us_at hu
        have haX := HF.out a (List.mem_of_getElem? ha)
        obtain ⟨ad2, u2, rfl, _, hu2, hc2⟩ := (r2.below hbr).at_ haX
        obtain ⟨z, hz, rfl⟩ := zs_at hu2
        have HAT : Hid ((zs Gl)[k]? = some (.int .i64 z)) := Lib.hid (zs_get (by rw [HGL.out, List.getElem?_map, ha]; simp [hz]))
        have hck := hF.cell k
        rw [fillW_old _ _ k (by rw [HX.out]; omega)] at hck
        have hfk := hF.frozen k
        clear hu ha hu2 hz
        go_wp2_with fail
        go_round
        case rel =>
          refine ⟨k + 1, by omega, by go_num, ?_, hbr.setCell (Nat.le_refl _) _⟩
          have h1 := hF.set_ k (.int .i64 z)
          rw [fillW_next _ _ k _ HAT.out] at h1
          exact h1
        case measure => simp [intOf]; omega
      · obtain rfl : k = N := by omega
        rw [fillW_all _ _ k HX.out] at hF
        have hown := own_whole (B := w4.heap.size) hF (Nat.le_refl _) HX.out (by unfold maxLen; omega)
        go_wp2_with fail
        go_ret2
        rw [HG2.out, HE.out]
        have hl : Gl.length = k := by have := HX.out; rw [zs_length] at this; exact this
        exact ⟨_, rfl, by rw [hl]; exact own_base hown hb04.size, hb04.trans (hbr.mono hb04.size)⟩
  · have q1 : (r == 0) = false := by simp [hrz]
    have q2 : (r != 0) = true := by simp [hrz]
    have H0 := Lib.hid hrz
    clear hrz hown24 hown34
    go_wp2_with fail
    go_ret2
    rw [HG.out, HE.out, if_neg H0.out]
    exact ⟨.slice none 0 0, rfl, own_nil _ _ _ _, hb04⟩
theorem dcGet_any (A : Option Addr) (n c : Nat) (k : Int) (b : List Nat) (w : World) (hr : Reads w w.heap.size 1 A n (bs b)) (hb : ∀ x ∈ b, x < 256) (hn : n ≤ 140737488355328) (hmet : Met w) :
    Calls Tryd.prog 6 #[.slice A n c, .int .i64 k] w (NewLE w (dcG b k) (dcE b k)) := by
  by_cases h : k < 0 ∨ 65536 < k
  · exact dcGet_no A n c b k w h
  · obtain ⟨N, rfl⟩ : ∃ N : Nat, k = (N : Int) := ⟨k.toNat, by omega⟩
    exact dcGet_ok A n c N b w hr hb hn (by omega) hmet
end Go.Proofs.YtkcbmipcgjheoaaDoor

/- Contract of the statements' own Same over numbers with a sign (layer 8's): it answers true of the same numbers; nothing changes. -/
namespace Go.Proofs.YtkcbmipcgjheoaaDoor
open Go.RowKit
set_option linter.unusedVariables false
set_option linter.unusedSimpArgs false
set_option maxRecDepth 100000

set_option maxHeartbeats 400000 in
theorem sameZ_true (A A' : Option Addr) (n c c' : Nat) (l : List Int) (w : World) (h1 : Reads w w.heap.size 1 A n (zs l)) (h2 : Reads w w.heap.size 1 A' n (zs l)) (hn : n ≤ 140737488355328) :
    Calls Tryd.prog 8 #[.slice A n c, .slice A' n c'] w fun e w' => e = .returned (.bool true) ∧ Drawn w w' := by
  go_enter Tryd.func8, Tryd.ntmps8
  go_wp2_with fail
  go_loopw [5] (fun i wr => ∃ k : Nat, k ≤ n ∧ i = .int .i64 (k : Int) ∧ ∃ q, wr = w.drewN q) (fun i _ => n - (intOf i).toNat)
  case atStart => exact ⟨0, Nat.zero_le _, rfl, 0, rfl⟩
  case round =>
    obtain ⟨k, hk, rfl, q, rfl⟩ := hrel
    by_cases hlt : k < n
    · obtain ⟨ad, u, rfl, _, hu, hc⟩ := h1.at_ hlt
      obtain ⟨ad', u', rfl, _, hu', hc'⟩ := h2.at_ hlt
      obtain ⟨b, hb, rfl⟩ := zs_at hu
      obtain ⟨b', hb', rfl⟩ := zs_at hu'
      obtain rfl : b = b' := by rw [hb] at hb'; exact Option.some.inj hb'
      clear hb hb' hu hu'
      go_wp2_with fail
      go_quiet (fail)
      go_wp2_with fail
      exact ⟨⟨k + 1, by omega, by go_num, _, rfl⟩, by simp [intOf]; omega⟩
    · go_wp2_with fail
      go_ret
      exact ⟨rfl, _, rfl⟩
end Go.Proofs.YtkcbmipcgjheoaaDoor
