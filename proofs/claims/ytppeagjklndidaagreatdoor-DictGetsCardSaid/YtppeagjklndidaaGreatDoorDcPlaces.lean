/- Contract of package dict's readPlaces: the places that it reads, and the reader behind it. -/
import Derived.Test.YtppeagjklndidaaGreatDoorJ30
import Derived.Test.YtppeagjklndidaaGreatDoorJ33
import Derived.Test.YtppeagjklndidaaGreatDoorTake
import Derived.Test.YtppeagjklndidaaGreatDoorJ13
namespace Go.Proofs.YtppeagjklndidaaGreatDoor
open Go.RowKit
set_option linter.unusedVariables false
set_option linter.unusedSimpArgs false
set_option maxRecDepth 100000

theorem fix1_small (b : List Nat) (at_ : Nat) (x : Option (Int × Nat)) (hb : ∀ v ∈ b, v < 256) : (fixS b at_ x 1).1 < 256 := by
  cases x with
  | some y => show (0 : Nat) < 256; omega
  | none =>
    cases h : b[at_]? with
    | none =>
      have := List.getElem?_eq_none_iff.1 h
      unfold fixS
      simp only
      rw [if_neg (by omega), if_pos (by omega)]
      show (0 : Nat) < 256
      omega
    | some v => rw [fix1_byte b at_ v h]; exact hb v (List.mem_of_getElem? h)
theorem wd_one (a : Nat) : wd [a] = blen a := by simp [wd]
set_option maxHeartbeats 1000000 in
theorem places_any {w : World} {g : Nat} {b : List Nat} {at_ : Nat} {x : Option (Int × Nat)} (n c : Nat) (h : RdS w g b at_ x) (hn : n ≤ 65536) (hc : c ≤ 65536) :
    Calls Tryz.prog 33 #[.pointer (some ⟨g, 0, none⟩), .int .i64 (n : Int), .int .i64 (c : Int)] w
      fun e w' => ∃ v, e = .returned v ∧ w'.ownsRow w.heap.size 46 1 v (rpS b at_ x n c).1.length (us (rpS b at_ x n c).1) ∧ RdTo w g b (rpS b at_ x n c).2.1 (rpS b at_ x n c).2.2 w' := by
  have hby := h.byte
  have hpl := h.place.2
  have hgw := h.lt
  obtain ⟨K, hK⟩ : ∃ K, K = blen (c - 1) := ⟨_, rfl⟩
  have hK16 : K ≤ 17 := by rw [hK, blen_le]; omega
  obtain ⟨w1, hw1⟩ : ∃ w1, w1 = w.alloc (.cells #[.int .u64 ((c - 1 : Nat) : Int)] 46) := ⟨_, rfl⟩
  have hb1 : Below w.heap.size w w1 := by rw [hw1]; exact (Below.refl _ _).alloc (Nat.le_refl _) _
  have hwi : Calls Tryz.prog 54 #[.slice (some ⟨w.heap.size, 0, none⟩) 1 1] w1 fun e w' => e = .returned (.int .i64 (K : Int)) ∧ w1 = w' := by
    have := width_any (some ⟨w.heap.size, 0, none⟩) 1 1 [c - 1] w1 (by rw [hw1]; exact reads_blk (Blk.new w _ _) _ 1 _ (by simp) rfl rfl) (by intro a ha; simp at ha; omega) (by omega)
    rwa [wd_one, ← hK] at this
  have h1 := h.next hb1
  have hfs := fix1_small b at_ x hby
  have hf := nfix_is 1 h1
  have hR : rpS b at_ x n c = rpS b at_ x n c := rfl
  unfold rpS at hR ⊢
  clear hR
  rw [← hK]
  rcases hF : fixS b at_ x 1 with ⟨v, a1, x1⟩
  rw [hF] at hf hfs
  simp only at hf hfs ⊢
  obtain ⟨x2, hx2⟩ : ∃ x2, x2 = (if v = K then x1 else failS a1 x1 4) := ⟨_, rfl⟩
  rw [← hx2]
  have htb := takeS_byte b a1 x2 ((b.length : Int) - a1) hby
  have ht := fun (w1 : World) (h1 : RdS w1 g b a1 x2) => take_is ((b.length : Int) - a1) h1
  rcases hT : takeS b a1 x2 ((b.length : Int) - a1) with ⟨t, a2, x3⟩
  rw [hT] at htb ht
  simp only at htb ht ⊢
  obtain ⟨L, hL⟩ : ∃ L, L = unpackS t (n : Int) (K : Int) := ⟨_, rfl⟩
  obtain ⟨E, hE⟩ : ∃ E, E = unpackE t (n : Int) (K : Int) := ⟨_, rfl⟩
  have hu := fun (A : Option Addr) (m c : Nat) (w1 : World) (h1 : Reads w1 w1.heap.size 1 A m (bs t)) => unpack_any A m c t (n : Int) (K : Int) w1 h1 htb.1 (by have := h1.1; rw [bs_length] at this; omega) (by omega) (by omega)
  have hLl := unpackS_all t (n : Int) (K : Int)
  rw [← hL] at hLl hu ⊢
  rw [← hE] at hu ⊢
  obtain ⟨W, hW⟩ : ∃ W, W = whE L c := ⟨_, rfl⟩
  have hwh := fun (A : Option Addr) (m cc : Nat) (w1 : World) (h1 : Reads w1 w1.heap.size 1 A m (us L)) (hm : m ≤ 65536) => whole_any A m cc L c w1 h1 hm hc
  rw [← hW] at hwh ⊢
  have hLL := hLl.2
  have HT := Lib.hid ht; have HU := Lib.hid hu; have HW := Lib.hid hwi; have HX := Lib.hid hx2; have HF := Lib.hid hf; have HH := Lib.hid hwh; have HW1 := Lib.hid hw1
  have hw1s := hb1.size
  have hG1 : w.grownBy w1 (some g) := by rw [hw1]; exact only_alloc (World.grownBy.refl w _) _
  clear ht hu hwi hx2 hf hF hT hL hE hK hLl htb hwh hW hw1 h1 hpl
  have hv2 : (v : Int) ≤ 255 := by omega
  have hKw : IntKind.u64.wrap (K : Int) = (K : Int) := IntWalk.u64_in _ (by omega)
  by_cases hc0 : c = 0
  case' pos =>
    subst hc0
    have hw := HW1.out
    rw [show ((0 - 1 : Nat) : Int) = 0 from rfl] at hw
    go_enter Tryz.func33, Tryz.ntmps33
    go_wp2_with fail
    rw [show max (-1 : Int) 0 = 0 from rfl, ← hw]
  case' neg =>
    have hcc : (c : Int) - 1 = ((c - 1 : Nat) : Int) := by omega
    have hw := HW1.out
    go_enter Tryz.func33, Tryz.ntmps33
    go_wp2_with fail
    rw [← hw]
  all_goals
    clear hw
    refine HW.out.mono ?_
    rintro e w' ⟨rfl, rfl⟩
    go_wp2_with fail
    refine HF.out.mono ?_
    rintro e w2 ⟨rfl, hS2, hG2⟩
    have hG02 := only_trans hG1 hG2
    clear hG2
    by_cases hvK : v = K
    case' pos =>
      have q1 : ((v : Int) != (K : Int)) = false := by simp; omega
      have hx := HX.out
      rw [if_pos hvK] at hx
      rw [← hx] at hS2
      clear hx hvK
      go_wp2_with fail
    case' neg =>
      have q1 : ((v : Int) != (K : Int)) = true := by simp; omega
      have hx := HX.out
      rw [if_neg hvK] at hx
      clear hvK
      go_wp2_with fail
      refine (fail_is 4 hS2).mono ?_
      rintro e w2' ⟨rfl, hS2', hG2'⟩
      rw [← hx] at hS2'
      have hG02' := only_trans hG02 hG2'
      clear hS2 hG02 hG2' hx
      have hS2 := hS2'
      have hG02 := hG02'
      clear hS2' hG02'
      go_wp2_with fail
    all_goals
      refine (left_is hS2).mono ?_
      rintro e w3 ⟨rfl, hd3⟩
      have hS3 := hS2.next (hd3.below (Below.refl _ _))
      have hG03 := only_trans hG02 (only_below (World.grownBy.refl _ _) (hd3.below (Below.refl _ _)))
      go_wp2_with fail
      refine (HT.out w3 hS3).mono ?_
      rintro e w4 ⟨⟨A4, m4, c4, rfl, r4⟩, hS4, hG4⟩
      have hG04 := only_trans hG03 hG4
      go_wp2_with fail
      refine (HU.out A4 m4 c4 w4 r4).mono ?_
      rintro e w5 ⟨v5, rfl, hown5, hb5⟩
      obtain ⟨A5, c5, rfl, _, _, r5⟩ := own_slice hown5
      have hS5 := hS4.next hb5
      have hG05 := only_below hG04 hb5
      have hlt := hS4.lt
      have hz4 := hG04.size
      clear hS2 hS3 hS4 hG02 hG03 hG4 hG04 hb5 r4 r5 hd3
      go_wp2_with fail
      refine (fail_is (E : Int) hS5).mono ?_
      rintro e w6 ⟨rfl, hS6, hG6⟩
      have hown6 := own_before hown5 hG6 (fun r hr => by injection hr with hr; omega)
      have r6 := Reads.of_own hown6
      have hG06 := only_trans hG05 hG6
      clear hS5 hG05 hown5 hG6
      go_wp2_with fail
      refine (HH.out A5 L.length c5 w6 r6 hLL).mono ?_
      rintro e w7 ⟨rfl, hb7⟩
      have hS7 := hS6.next hb7
      have hG07 := only_below hG06 hb7
      have hown7 := own_below hown6 hb7
      clear hS6 hG06 hown6 r6 hb7
      go_wp2_with fail
      refine (fail_is (W : Int) hS7).mono ?_
      rintro e w8 ⟨rfl, hS8, hG8⟩
      have hown8 := own_before hown7 hG8 (fun r hr => by injection hr with hr; omega)
      go_wp2_with fail
      go_ret
      exact ⟨_, rfl, own_base hown8 hz4, hS8, only_trans hG07 hG8⟩
end Go.Proofs.YtppeagjklndidaaGreatDoor
