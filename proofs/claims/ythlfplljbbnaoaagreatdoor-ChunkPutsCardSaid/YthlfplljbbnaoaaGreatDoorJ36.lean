/- Texts joined: PcGetS BlobS BlobPlain FirstRead. -/
import Derived.Test.YthlfplljbbnaoaaGreatDoorJ33
import Derived.Test.YthlfplljbbnaoaaGreatDoorJ9
import Derived.Test.YthlfplljbbnaoaaGreatDoorJ13
import Derived.Test.YthlfplljbbnaoaaGreatDoorJ24
import Derived.Test.YthlfplljbbnaoaaGreatDoorJ23
/- Contract of package places' Get over texts, whatever list it is handed: the values in new memory, or the error's number. -/
namespace Go.Proofs.YthlfplljbbnaoaaGreatDoor
open Go.RowKit
set_option linter.unusedVariables false
set_option linter.unusedSimpArgs false
set_option maxRecDepth 100000

theorem pcGetS_no (A : Option Addr) (n c : Nat) (k : Int) (f : Value) (w : World) (h : k < 0 ∨ 65536 < k) :
    Calls Tryz.prog 120 #[.slice A n c, .int .i64 k, f] w fun e w' => e = .returned (.tuple #[.slice none 0 0, .int .i64 1]) ∧ w = w' := by
  by_cases hk : k < 0
  · clear h
    go_enter Tryz.func120, Tryz.ntmps120
    go_wp2_with fail
    go_ret2
    exact ⟨rfl, rfl⟩
  · have d1 : decide (k < 0) = false := by simp; omega
    have h2 : 65536 < k := by omega
    clear h
    go_enter Tryz.func120, Tryz.ntmps120
    go_wp2_with fail
    go_ret2
    exact ⟨rfl, rfl⟩
/-- New values, and an error's number. -/
def GotS (w : World) (G : List Value) (E : Int) (e : Ending) (w' : World) : Prop := ∃ v, e = .returned (.tuple #[v, .int .i64 E]) ∧ w'.ownsRow w.heap.size 9 1 v G.length G ∧ Below w.heap.size w w'
set_option maxHeartbeats 2000000 in
theorem pcGetS_any (A : Option Addr) (n c N : Nat) (b : List Nat) (a0 : Nat) (x0 : Option (Int × Nat)) (Q : List Value → Prop) (E : Int) (G : List Value) (w : World) (hr : Reads w w.heap.size 1 A n (bs b)) (hb : ∀ x ∈ b, x < 256) (hn : n ≤ 140737488355328) (hN : N ≤ 65536) (hmet : Met w)
    (hrl : ∀ (w : World) (g : Nat), Met w → RdS w g b 0 none → Calls Tryz.prog 121 #[.pointer (some ⟨g, 0, none⟩), .int .i64 (N : Int)] w
      fun e w' => ∃ v X, e = .returned v ∧ w'.ownsRow w.heap.size 9 1 v X.length X ∧ Q X ∧ RdTo w g b a0 x0 w')
    (hsp : ∀ X, Q X → X.length ≤ 65536 ∧ (endS b (rpS b a0 x0 N X.length).2.1 (rpS b a0 x0 N X.length).2.2).1 = E ∧
      (E = 0 → (rpS b a0 x0 N X.length).1.length = N ∧ G.length = N ∧ ∀ (k p : Nat), (rpS b a0 x0 N X.length).1[k]? = some p → ∃ u : ByteArray, X[p]? = some (.string u) ∧ G[k]? = some (.string u)))
    (hG : E ≠ 0 → G = []) :
    Calls Tryz.prog 120 #[.slice A n c, .int .i64 (N : Int), .func (.func 121) #[] #[]] w (GotS w G E) := by
  have d1 : decide ((N : Int) < 0) = false := by simp
  have d2 : decide ((65536 : Int) < (N : Int)) = false := by simp; omega
  have HB := Lib.hid hb; have HRL := Lib.hid hrl; have HSP := Lib.hid hsp; have HG := Lib.hid hG
  clear hb hrl hsp hG
  go_enter Tryz.func120, Tryz.ntmps120
  go_wp2_with fail
  refine (newReader_any A n c b w hr hn HB.out).mono ?_
  rintro e w1 ⟨g, A1, c1, rfl, hg, hR1, hb1⟩
  have hS1 := rd_new hR1
  have hg1 := hS1.lt
  have hz1 := hb1.size
  clear hR1
  go_wp2_with fail
  refine (HRL.out w1 g (hmet.next hb1) hS1).mono ?_
  rintro e w2 ⟨v2, X, rfl, hown2, hQ, hS2, hG2⟩
  obtain ⟨A2, c2, rfl, _, _, _⟩ := own_slice hown2
  have hb2 : Below w.heap.size w w2 := hb1.grown hG2 hb1.size (fun j hj => by injection hj with hj; omega)
  have hz2 := hG2.size
  obtain ⟨hX, hE, hz⟩ := HSP.out X hQ
  have HRP := Lib.hid (places_any N X.length hS2 hN hX)
  obtain ⟨S, hS⟩ : ∃ S, S = rpS b a0 x0 N X.length := ⟨_, rfl⟩
  rw [← hS] at hE hz HRP
  have hPl : S.1.length ≤ 65536 := by rw [hS]; unfold rpS; exact (unpackS_all _ _ _).2
  obtain ⟨P, hP⟩ : ∃ P, P = S.1 := ⟨_, rfl⟩
  rw [← hP] at hz HRP hPl
  have HZ := Lib.hid hz; have HE := Lib.hid hE
  clear hS1 hb1 hG2 hz hE hS2 hS hP hQ HRL HSP
  go_wp2_with fail
  refine HRP.out.mono ?_
  rintro e w3 ⟨v3, rfl, hown3, hS3, hG3⟩
  obtain ⟨A3, c3, rfl, _, _, _⟩ := own_slice hown3
  have hb3 : Below w.heap.size w w3 := hb2.grown hG3 hb2.size (fun j hj => by injection hj with hj; omega)
  have hown23 := own_before hown2 hG3 (fun r hr => by injection hr with hr; omega)
  have hm3 := hmet.next hb3
  have hcl := end_is hm3 hS3
  obtain ⟨o, ho⟩ : ∃ o : Int, o = ((endS b S.2.1 S.2.2).2 : Int) := ⟨_, rfl⟩
  rw [HE.out, ← ho] at hcl
  have HCL := Lib.hid hcl
  clear ho hcl hS3 hb2 hG3 hown2 hm3 HE HRP
  go_wp2_with fail
  refine HCL.out.mono ?_
  rintro e w4 ⟨he, hb4⟩
  have he' : e = .returned (.tuple #[.int .i64 E, .int .i64 o]) := he
  subst he'
  clear he HCL
  have hb04 := hb3.trans (hb4.mono hb3.size)
  have hown24 := own_below hown23 hb4
  have hown34 := own_below hown3 hb4
  clear hown23 hown3 hb3 hb4
  by_cases hrz : E = 0
  · obtain ⟨hlen, hGl, hfit⟩ := HZ.out hrz
    subst hrz
    have hmk := fun W => run_make_str N N (Nat.le_refl _) (by omega) W
    rw [← fillW_zero G (.string ⟨#[]⟩) N hGl] at hmk
    have HX := Lib.hid hGl; have HF := Lib.hid hfit
    have r2 := Reads.of_own hown24
    have r3 := Reads.of_own hown34
    have hF0 := Blk.new w4 9 (fillW G (.string ⟨#[]⟩) 0)
    have hb40 : Below w4.heap.size w4 (w4.alloc (.cells (fillW G (.string ⟨#[]⟩) 0) 9)) := (Below.refl _ _).alloc (Nat.le_refl _) _
    clear hGl hfit hown24 hown34 HZ HG
    rw [hlen] at r3
    have HLEN := Lib.hid hlen
    rw [hlen]
    clear hlen
    go_wp2_with fail
    clear hmk
    go_loopw [45] (fun s45 wr => ∃ k : Nat, k ≤ N ∧ s45 = .int .i64 (k : Int) ∧ Blk wr w4.heap.size 9 (fillW G (.string ⟨#[]⟩) k) ∧ Below w4.heap.size w4 wr) (fun i _ => N - (intOf i).toNat)
    case atStart => exact ⟨0, Nat.zero_le _, rfl, hF0, hb40⟩
    case round =>
      clear hF0 hb40
      obtain ⟨k, hk, rfl, hF, hbr⟩ := hrel
      by_cases hlt : k < N
      · obtain ⟨ad, u, rfl, _, hu, hc0⟩ := (r3.below hbr).at_ hlt
        obtain ⟨a, ha, rfl⟩ := us_at hu
        obtain ⟨u2, hu2, hGk⟩ := HF.out k a ha
        have haX : a < X.length := (List.getElem?_eq_some_iff.1 hu2).1
        obtain ⟨ad2, u2', rfl, _, hu2', hc2⟩ := (r2.below hbr).at_ haX
        obtain rfl : Value.string u2 = u2' := by rw [hu2] at hu2'; exact Option.some.inj hu2'
        have HAT := Lib.hid hGk
        have hck := hF.cell k
        rw [fillW_old _ _ k (by rw [HX.out]; omega)] at hck
        have hfk := hF.frozen k
        clear hu ha hu2 hu2' hGk
        go_wp2_with fail
        go_round
        case rel =>
          refine ⟨k + 1, by omega, by go_num, ?_, hbr.setCell (Nat.le_refl _) _⟩
          have h1 := hF.set_ k (.string u2)
          rw [fillW_next _ _ k _ HAT.out] at h1
          exact h1
        case measure => simp [intOf]; omega
      · obtain rfl : k = N := by omega
        rw [fillW_all _ _ k HX.out] at hF
        have hown := own_whole (B := w4.heap.size) hF (Nat.le_refl _) HX.out (by unfold maxLen; omega)
        go_wp2_with fail
        go_ret2
        exact ⟨_, rfl, by rw [HX.out]; exact own_base hown hb04.size, hb04.trans (hbr.mono hb04.size)⟩
  · have q1 : (E == 0) = false := by simp [hrz]
    have q2 : (E != 0) = true := by simp [hrz]
    have hg0 := HG.out hrz
    subst hg0
    clear hrz hown24 hown34 HZ HG
    go_wp2_with fail
    go_ret2
    exact ⟨.slice none 0 0, rfl, own_nil _ _ _ _, hb04⟩
end Go.Proofs.YthlfplljbbnaoaaGreatDoor

/- What a blob is that is read: plain functions on bytes. -/
namespace Go.Proofs.YthlfplljbbnaoaaGreatDoor
open Go.RowKit
set_option linter.unusedVariables false
set_option linter.unusedSimpArgs false

/-- A blob at the front of bytes: where its own bytes begin, where they end, or the error's number. -/
def lookB (l : List Nat) (most : Int) : Nat × Nat × Nat :=
  if (lookF 0 0 l).2.2 = 0 then
    if most < 0 ∨ most < ((lookF 0 0 l).1 : Int) then (0, 0, 12)
    else if l.length - (lookF 0 0 l).2.1 < (lookF 0 0 l).1 then (0, 0, 2)
    else ((lookF 0 0 l).2.1, (lookF 0 0 l).2.1 + (lookF 0 0 l).1, 0)
  else (0, 0, (lookF 0 0 l).2.2)
/-- What Blob takes, and the reader's place and error behind it. -/
def blobS (l : List Nat) (at_ : Nat) (x : Option (Int × Nat)) (most : Int) : List Nat × Nat × Option (Int × Nat) :=
  match x with
  | some x => ([], at_, some x)
  | none => if (lookB (l.drop at_) most).2.2 = 0 then (((l.drop at_).take (lookB (l.drop at_) most).2.1).drop (lookB (l.drop at_) most).1, at_ + (lookB (l.drop at_) most).2.1, none) else ([], at_, some (((lookB (l.drop at_) most).2.2 : Int), at_))
end Go.Proofs.YthlfplljbbnaoaaGreatDoor

/- Plain facts on a blob that is read: what was put is read as it was, whatever stands behind it; what is read has just the bytes that it has when it is put. No program. -/
namespace Go.Proofs.YthlfplljbbnaoaaGreatDoor
open Go.RowKit
set_option linter.unusedVariables false
set_option linter.unusedSimpArgs false
set_option maxRecDepth 100000

theorem blobS_some (l : List Nat) (at_ : Nat) (y : Int × Nat) (most : Int) : blobS l at_ (some y) most = ([], at_, some y) := rfl
theorem blobS_put (l p rest : List Nat) (at_ : Nat) (most : Int) (h : l.drop at_ = vb p.length ++ p ++ rest) (hp : (p.length : Int) ≤ most) (h64 : p.length < 18446744073709551616) :
    blobS l at_ none most = (p, at_ + ((vb p.length).length + p.length), none) := by
  have hk := look_vb p.length h64 (p ++ rest)
  have hB : lookB (l.drop at_) most = ((vb p.length).length, (vb p.length).length + p.length, 0) := by
    unfold lookB
    rw [h, List.append_assoc]
    simp only [hk, if_true]
    rw [if_neg (by omega), if_neg (by simp)]
  unfold blobS
  simp only [hB, if_true]
  rw [h, List.append_assoc, List.drop_take, Nat.add_sub_cancel_left, List.drop_append_of_le_length (Nat.le_refl _), List.drop_length, List.nil_append, List.take_append_of_le_length (Nat.le_refl _), List.take_length]
theorem blobS_ok (l : List Nat) (at_ : Nat) (most : Int) (y : Int × Nat) (h : (blobS l at_ none most).2.2 = some y) : y.1 ≠ 0 := by
  unfold blobS at h
  simp only at h
  split at h
  · cases h
  · rename_i h1
    injection h with h
    subst h
    show ((lookB (l.drop at_) most).2.2 : Int) ≠ 0
    omega
theorem blobS_is {l : List Nat} (hb : ∀ x ∈ l, x < 256) {at_ : Nat} (hat : at_ ≤ l.length) {most : Int} (h : (blobS l at_ none most).2.2 = none) :
    ∃ p, blobS l at_ none most = (p, at_ + ((vb p.length).length + p.length), none) ∧ (p.length : Int) ≤ most ∧ at_ + ((vb p.length).length + p.length) ≤ l.length ∧ l.take (at_ + ((vb p.length).length + p.length)) = l.take at_ ++ (vb p.length ++ p) ∧ ∀ x ∈ p, x < 256 := by
  have hE : (lookB (l.drop at_) most).2.2 = 0 := by
    unfold blobS at h
    simp only at h
    split at h
    · rename_i h1; exact h1
    · cases h
  rcases hk : lookF 0 0 (l.drop at_) with ⟨v, m, e⟩
  have hB := hE
  unfold lookB at hB
  rw [hk] at hB
  simp only at hB
  by_cases he : e = 0
  · subst he
    rw [if_pos rfl] at hB
    by_cases hq : most < 0 ∨ most < (v : Int)
    · rw [if_pos hq] at hB; simp at hB
    · rw [if_neg hq] at hB
      by_cases hs : (l.drop at_).length - m < v
      · rw [if_pos hs] at hB; simp at hB
      · have hlk := look_is (fun x hx => hb x (List.mem_of_mem_drop hx)) hk
        have hlen := look_len (l.drop at_) 0 0 (by rw [hk])
        rw [hk] at hlen
        simp only [List.length_drop] at hlen hs
        have hL : lookB (l.drop at_) most = (m, m + v, 0) := by
          unfold lookB
          rw [hk]
          simp only [if_true]
          rw [if_neg hq, if_neg (by rw [List.length_drop]; exact hs)]
        have hm : (vb v).length = m := by rw [← hlk.1, List.length_take, List.length_drop]; omega
        have hp : (((l.drop at_).take (m + v)).drop m).length = v := by rw [List.length_drop, List.length_take, List.length_drop]; omega
        refine ⟨((l.drop at_).take (m + v)).drop m, ?_, ?_, ?_, ?_, ?_⟩
        · unfold blobS
          simp only [hL, if_true]
          rw [hp, hm]
        · rw [hp]; omega
        · rw [hp, hm]; omega
        · rw [hp, hm, List.take_add, ← hlk.1]
          congr 1
          have h1 : ((l.drop at_).take (m + v)).take m = (l.drop at_).take m := by rw [List.take_take]; congr 1; omega
          rw [← h1, List.take_append_drop]
        · intro x hx
          exact hb x (List.mem_of_mem_drop (List.mem_of_mem_take (List.mem_of_mem_drop hx)))
  · rw [if_neg he] at hB; exact absurd hB he
end Go.Proofs.YthlfplljbbnaoaaGreatDoor

/- A plain fact: the first short number is read, whatever stands behind it. No program. -/
namespace Go.Proofs.YthlfplljbbnaoaaGreatDoor
open Go.RowKit
set_option linter.unusedVariables false
set_option linter.unusedSimpArgs false
set_option maxRecDepth 100000

/-- The first number is read, whatever stands behind it. -/
theorem first_read (z : Int) (hz : In64 z) (rest : List Nat) : vst (vb (zg z) ++ rest) 1 = ((vb (zg z)).length, none) ∧ zagI (vv (vb (zg z) ++ rest) 0 : Int) = z := by
  obtain ⟨h1, h2⟩ := vst_put [z] rest (by simpa using hz) 1 (by simp)
  rw [pl_one] at h1 h2
  simp only [List.take_succ_cons, List.take_zero, pl_one] at h1 h2
  refine ⟨h1, ?_⟩
  have e : getL (vb (zg z) ++ rest) 1 = [zagI (vv (vb (zg z) ++ rest) 0 : Int)] := by simp [getL]
  rw [e] at h2
  injection h2
end Go.Proofs.YthlfplljbbnaoaaGreatDoor
