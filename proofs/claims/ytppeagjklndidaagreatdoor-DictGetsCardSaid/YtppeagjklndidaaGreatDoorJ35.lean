/- Texts joined: PcGetI RdFar ZagF. -/
import Derived.Test.YtppeagjklndidaaGreatDoorDcPlaces
import Derived.Test.YtppeagjklndidaaGreatDoorJ13
import Derived.Test.YtppeagjklndidaaGreatDoorJ20
import Derived.Test.YtppeagjklndidaaGreatDoorJ24
import Derived.Test.YtppeagjklndidaaGreatDoorRdE
import Derived.Test.YtppeagjklndidaaGreatDoorJ8
import Derived.Test.YtppeagjklndidaaGreatDoorJ2
/- Contract of package places' Get over numbers with a sign, whatever list it is handed: the values in new memory, or the error's number. -/
namespace Go.Proofs.YtppeagjklndidaaGreatDoor
open Go.RowKit
set_option linter.unusedVariables false
set_option linter.unusedSimpArgs false
set_option maxRecDepth 100000

theorem pcGetI_no (A : Option Addr) (n c : Nat) (k : Int) (f : Value) (w : World) (h : k < 0 ∨ 65536 < k) :
    Calls Tryz.prog 15 #[.slice A n c, .int .i64 k, f] w fun e w' => e = .returned (.tuple #[.slice none 0 0, .int .i64 1]) ∧ w = w' := by
  by_cases hk : k < 0
  · clear h
    go_enter Tryz.func15, Tryz.ntmps15
    go_wp2_with fail
    go_ret2
    exact ⟨rfl, rfl⟩
  · have d1 : decide (k < 0) = false := by simp; omega
    have h2 : 65536 < k := by omega
    clear h
    go_enter Tryz.func15, Tryz.ntmps15
    go_wp2_with fail
    go_ret2
    exact ⟨rfl, rfl⟩
/-- New values, and an error's number. -/
def GotI (w : World) (G : List Value) (E : Int) (e : Ending) (w' : World) : Prop := ∃ v, e = .returned (.tuple #[v, .int .i64 E]) ∧ w'.ownsRow w.heap.size 2 1 v G.length G ∧ Below w.heap.size w w'
set_option maxHeartbeats 2000000 in
theorem pcGetI_any (A : Option Addr) (n c N : Nat) (b : List Nat) (a0 : Nat) (x0 : Option (Int × Nat)) (Q : List Value → Prop) (E : Int) (G : List Value) (w : World) (hr : Reads w w.heap.size 1 A n (bs b)) (hb : ∀ x ∈ b, x < 256) (hn : n ≤ 140737488355328) (hN : N ≤ 65536) (hmet : Met w)
    (hrl : ∀ (w : World) (g : Nat), Met w → RdS w g b 0 none → Calls Tryz.prog 16 #[.pointer (some ⟨g, 0, none⟩), .int .i64 (N : Int)] w
      fun e w' => ∃ v X, e = .returned v ∧ w'.ownsRow w.heap.size 2 1 v X.length X ∧ Q X ∧ RdTo w g b a0 x0 w')
    (hsp : ∀ X, Q X → X.length ≤ 65536 ∧ (endS b (rpS b a0 x0 N X.length).2.1 (rpS b a0 x0 N X.length).2.2).1 = E ∧
      (E = 0 → (rpS b a0 x0 N X.length).1.length = N ∧ G.length = N ∧ ∀ (k p : Nat), (rpS b a0 x0 N X.length).1[k]? = some p → ∃ u : Int, X[p]? = some (.int .i64 u) ∧ G[k]? = some (.int .i64 u)))
    (hG : E ≠ 0 → G = []) :
    Calls Tryz.prog 15 #[.slice A n c, .int .i64 (N : Int), .func (.func 16) #[] #[]] w (GotI w G E) := by
  have d1 : decide ((N : Int) < 0) = false := by simp
  have d2 : decide ((65536 : Int) < (N : Int)) = false := by simp; omega
  have HB := Lib.hid hb; have HRL := Lib.hid hrl; have HSP := Lib.hid hsp; have HG := Lib.hid hG
  clear hb hrl hsp hG
  go_enter Tryz.func15, Tryz.ntmps15
  go_wp2_with fail
  refine (newReader_any A n c b w hr hn HB.out).mono ?_
  rintro e w1 ⟨g, A1, c1, rfl, hg, hR1, hb1⟩
  have hS1 := rd_new hR1
  have hg1 := hS1.lt
  have hz1 := hb1.size
  clear hR1
  go_wp2_with fail
  refine (HRL.out w1 g (hmet.next hb1) hS1).mono ?_
  rintro e w2 ⟨v2, X, rfl, hown2, hQ, hS2, hG2⟩
  obtain ⟨A2, c2, rfl, _, _, _⟩ := own_slice hown2
  have hb2 : Below w.heap.size w w2 := hb1.grown hG2 hb1.size (fun j hj => by injection hj with hj; omega)
  have hz2 := hG2.size
  obtain ⟨hX, hE, hz⟩ := HSP.out X hQ
  have HRP := Lib.hid (places_any N X.length hS2 hN hX)
  obtain ⟨S, hS⟩ : ∃ S, S = rpS b a0 x0 N X.length := ⟨_, rfl⟩
  rw [← hS] at hE hz HRP
  have hPl : S.1.length ≤ 65536 := by rw [hS]; unfold rpS; exact (unpackS_all _ _ _).2
  obtain ⟨P, hP⟩ : ∃ P, P = S.1 := ⟨_, rfl⟩
  rw [← hP] at hz HRP hPl
  have HZ := Lib.hid hz; have HE := Lib.hid hE
  clear hS1 hb1 hG2 hz hE hS2 hS hP hQ HRL HSP
  go_wp2_with fail
  refine HRP.out.mono ?_
  rintro e w3 ⟨v3, rfl, hown3, hS3, hG3⟩
  obtain ⟨A3, c3, rfl, _, _, _⟩ := own_slice hown3
  have hb3 : Below w.heap.size w w3 := hb2.grown hG3 hb2.size (fun j hj => by injection hj with hj; omega)
  have hown23 := own_before hown2 hG3 (fun r hr => by injection hr with hr; omega)
  have hm3 := hmet.next hb3
  have hcl := end_is hm3 hS3
  obtain ⟨o, ho⟩ : ∃ o : Int, o = ((endS b S.2.1 S.2.2).2 : Int) := ⟨_, rfl⟩
  rw [HE.out, ← ho] at hcl
  have HCL := Lib.hid hcl
  clear ho hcl hS3 hb2 hG3 hown2 hm3 HE HRP
  go_wp2_with fail
  refine HCL.out.mono ?_
  rintro e w4 ⟨he, hb4⟩
  have he' : e = .returned (.tuple #[.int .i64 E, .int .i64 o]) := he
  subst he'
  clear he HCL
  have hb04 := hb3.trans (hb4.mono hb3.size)
  have hown24 := own_below hown23 hb4
  have hown34 := own_below hown3 hb4
  clear hown23 hown3 hb3 hb4
  by_cases hrz : E = 0
  · obtain ⟨hlen, hGl, hfit⟩ := HZ.out hrz
    subst hrz
    have hmk := fun W => run_make_i64 N N (Nat.le_refl _) (by omega) W
    rw [← fillW_zero G (.int .i64 0) N hGl] at hmk
    have HX := Lib.hid hGl; have HF := Lib.hid hfit
    have r2 := Reads.of_own hown24
    have r3 := Reads.of_own hown34
    have hF0 := Blk.new w4 2 (fillW G (.int .i64 0) 0)
    have hb40 : Below w4.heap.size w4 (w4.alloc (.cells (fillW G (.int .i64 0) 0) 2)) := (Below.refl _ _).alloc (Nat.le_refl _) _
    clear hGl hfit hown24 hown34 HZ HG
    rw [hlen] at r3
    have HLEN := Lib.hid hlen
    rw [hlen]
    clear hlen
    go_wp2_with fail
    clear hmk
    go_loopw [45] (fun s45 wr => ∃ k : Nat, k ≤ N ∧ s45 = .int .i64 (k : Int) ∧ Blk wr w4.heap.size 2 (fillW G (.int .i64 0) k) ∧ Below w4.heap.size w4 wr) (fun i _ => N - (intOf i).toNat)
    case atStart => exact ⟨0, Nat.zero_le _, rfl, hF0, hb40⟩
    case round =>
      clear hF0 hb40
      obtain ⟨k, hk, rfl, hF, hbr⟩ := hrel
      by_cases hlt : k < N
      · obtain ⟨ad, u, rfl, _, hu, hc0⟩ := (r3.below hbr).at_ hlt
        obtain ⟨a, ha, rfl⟩ := us_at hu
        obtain ⟨u2, hu2, hGk⟩ := HF.out k a ha
        have haX : a < X.length := (List.getElem?_eq_some_iff.1 hu2).1
        obtain ⟨ad2, u2', rfl, _, hu2', hc2⟩ := (r2.below hbr).at_ haX
        obtain rfl : Value.int .i64 u2 = u2' := by rw [hu2] at hu2'; exact Option.some.inj hu2'
        have HAT := Lib.hid hGk
        have hck := hF.cell k
        rw [fillW_old _ _ k (by rw [HX.out]; omega)] at hck
        have hfk := hF.frozen k
        clear hu ha hu2 hu2' hGk
        go_wp2_with fail
        go_round
        case rel =>
          refine ⟨k + 1, by omega, by go_num, ?_, hbr.setCell (Nat.le_refl _) _⟩
          have h1 := hF.set_ k (.int .i64 u2)
          rw [fillW_next _ _ k _ HAT.out] at h1
          exact h1
        case measure => simp [intOf]; omega
      · obtain rfl : k = N := by omega
        rw [fillW_all _ _ k HX.out] at hF
        have hown := own_whole (B := w4.heap.size) hF (Nat.le_refl _) HX.out (by unfold maxLen; omega)
        go_wp2_with fail
        go_ret2
        exact ⟨_, rfl, by rw [HX.out]; exact own_base hown hb04.size, hb04.trans (hbr.mono hb04.size)⟩
  · have q1 : (E == 0) = false := by simp [hrz]
    have q2 : (E != 0) = true := by simp [hrz]
    have hg0 := HG.out hrz
    subst hg0
    clear hrz hown24 hown34 HZ HG
    go_wp2_with fail
    go_ret2
    exact ⟨.slice none 0 0, rfl, own_nil _ _ _ _, hb04⟩
end Go.Proofs.YtppeagjklndidaaGreatDoor

/- A reader stands while a row behind it is written. -/
namespace Go.Proofs.YtppeagjklndidaaGreatDoor
open Go.RowKit
set_option linter.unusedVariables false
set_option linter.unusedSimpArgs false
set_option maxRecDepth 100000

theorem RdS.store {w : World} {g h : Nat} {l : List Nat} {at_ : Nat} {x : Option (Int × Nat)} (hS : RdS w g l at_ x) {t : TypeId} {cs : Array Value} (hb : Blk w h t cs) (hg : g < h) (ht : t ≠ 116) (i : Nat) (u : Value) :
    RdS (w.setCell ⟨h, i, none⟩ u) g l at_ x := by
  obtain ⟨A, n, c, err, hR, hE⟩ := hS
  exact ⟨A, n, c, err, ⟨hR.blk.far (p := ⟨h, i, none⟩) (by show g ≠ h; omega) u, hR.reads.setCell (p := ⟨h, i, none⟩) (by show g ≤ h; omega) u, hR.cap, hR.place, hR.size, hR.byte⟩,
    hE.next fun f t' cs' hf ht' => hf.far (p := ⟨h, i, none⟩) (hf.type_ne hb (by rw [ht']; exact fun e => ht e.symm)) u⟩
theorem RdS.alloc {w : World} {g : Nat} {l : List Nat} {at_ : Nat} {x : Option (Int × Nat)} (hS : RdS w g l at_ x) (o : Obj) : RdS (w.alloc o) g l at_ x :=
  hS.next ((Below.refl _ _).alloc (Nat.le_refl _) _)
end Go.Proofs.YtppeagjklndidaaGreatDoor

/- Contract of package num's Zag. -/
namespace Go.Proofs.YtppeagjklndidaaGreatDoor
open Go.RowKit
set_option linter.unusedVariables false
set_option linter.unusedSimpArgs false
set_option maxRecDepth 100000

theorem zag_any (v : Nat) (w : World) (hv : v < 18446744073709551616) : Calls Tryz.prog 37 #[.int .u64 (v : Int)] w fun e w' => e = .returned (.int .i64 (zagI v)) ∧ w = w' := by
  have HZ := Lib.hid (zag_is v hv)
  go_enter Tryz.func37, Tryz.ntmps37
  go_wp2_with fail
  go_ret
  exact ⟨ret_of (congrArg (Value.int .i64) HZ.out), rfl⟩
end Go.Proofs.YtppeagjklndidaaGreatDoor
