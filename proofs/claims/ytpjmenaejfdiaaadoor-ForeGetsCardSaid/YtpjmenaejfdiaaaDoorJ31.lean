/- Texts joined: FoAbove ZagF Var0 RdFar. -/
import Derived.Test.YtpjmenaejfdiaaaDoorJ26
import Derived.Test.YtpjmenaejfdiaaaDoorJ27
import Derived.Test.YtpjmenaejfdiaaaDoorJ28
import Derived.Test.YtpjmenaejfdiaaaDoorJ30
import Derived.Test.YtpjmenaejfdiaaaDoorJ8
import Derived.Test.YtpjmenaejfdiaaaDoorJ2
import Derived.Test.YtpjmenaejfdiaaaDoorPlRead
import Derived.Test.YtpjmenaejfdiaaaDoorRdE
/- Contract of package fore's readAbove: the differences behind the least one; what the reader keeps. -/
namespace Go.Proofs.YtpjmenaejfdiaaaDoor
open Go.RowKit
set_option linter.unusedVariables false
set_option linter.unusedSimpArgs false
set_option maxRecDepth 100000

set_option maxHeartbeats 2000000 in
theorem above_any {w : World} {g : Nat} {b : List Nat} {at_ : Nat} {x : Option (Int × Nat)} (n m : Int) (h : RdS w g b at_ x) (hn : 0 ≤ n ∧ n ≤ 65536) (hm : In64 m) :
    Calls Tryd.prog 14 #[.pointer (some ⟨g, 0, none⟩), .int .i64 m, .int .i64 n] w
      fun e w' => ∃ v, e = .returned v ∧ w'.ownsRow w.heap.size 40 1 v (raS b at_ x n m).1.length (us (raS b at_ x n m).1) ∧ RdTo w g b (raS b at_ x n m).2.1 (raS b at_ x n m).2.2 w' := by
  have hby := h.byte
  have hpl := h.place.2
  have hfs := fix_small b at_ x hby
  have hf := nfix_is 1 h
  have hR : raS b at_ x n m = raS b at_ x n m := rfl
  unfold raS rbS at hR ⊢
  clear hR
  rcases hF : fixS b at_ x 1 with ⟨v, a1, x1⟩
  rw [hF] at hf hfs
  simp only at hf hfs ⊢
  obtain ⟨x2, hx2⟩ : ∃ x2, x2 = (if 64 < v then failS a1 x1 5 else x1) := ⟨_, rfl⟩
  rw [← hx2]
  have htb := takeS_byte b a1 x2 ((b.length : Int) - a1) hby
  have ht := fun (w1 : World) (h1 : RdS w1 g b a1 x2) => take_is ((b.length : Int) - a1) h1
  rcases hT : takeS b a1 x2 ((b.length : Int) - a1) with ⟨t, a2, x3⟩
  rw [hT] at htb ht
  simp only at htb ht ⊢
  obtain ⟨L, hL⟩ : ∃ L, L = unpackS t n v := ⟨_, rfl⟩
  obtain ⟨E, hE⟩ : ∃ E, E = unpackE t n v := ⟨_, rfl⟩
  have hu := fun (A : Option Addr) (m c : Nat) (w1 : World) (h1 : Reads w1 w1.heap.size 1 A m (bs t)) => unpack_any A m c t n v w1 h1 htb.1 (by have := h1.1; rw [bs_length] at this; omega) (by omega) (by omega)
  have hLl := unpackS_lt t n v
  rw [← hL] at hLl hu ⊢
  rw [← hE] at hu ⊢
  have hwd := wd_64 L hLl.1
  obtain ⟨K, hK⟩ : ∃ K, K = wd L := ⟨_, rfl⟩
  have hwi := fun (A : Option Addr) (m c : Nat) (w1 : World) (h1 : Reads w1 w1.heap.size 1 A m (us L)) => width_any A m c L w1 h1 hLl.1 (by have := h1.1; rw [us_length] at this; omega)
  rw [← hK] at hwi hwd ⊢
  obtain ⟨F, hFd⟩ : ∃ F, F = fitB m L := ⟨_, rfl⟩
  have hft := fun (A : Option Addr) (k c : Nat) (w1 : World) (h1 : Reads w1 w1.heap.size 1 A k (us L)) => fit_any A k c L m w1 h1 (by have := h1.1; rw [us_length] at this; omega) hm
  rw [← hFd] at hft ⊢
  obtain ⟨x5, hx5⟩ : ∃ x5, x5 = (if F = true then (if K = v then failS a2 x3 (E : Int) else failS a2 (failS a2 x3 (E : Int)) 4) else failS a2 (if K = v then failS a2 x3 (E : Int) else failS a2 (failS a2 x3 (E : Int)) 4) 4) := ⟨_, rfl⟩
  rw [← hx5]
  have hidem : ∀ (y : Option (Int × Nat)), failS a2 (failS a2 y 4) 4 = failS a2 y 4 := by
    intro y
    cases y with
    | none => rfl
    | some y => rfl
  have HX5 : Hid (x5 = if K = v ∧ F = true then failS a2 x3 (E : Int) else failS a2 (failS a2 x3 (E : Int)) 4) := Lib.hid (by
    rw [hx5]
    by_cases h1 : K = v
    · by_cases h2 : F = true
      · rw [if_pos h2, if_pos h1, if_pos ⟨h1, h2⟩]
      · rw [if_neg h2, if_pos h1, if_neg (fun h => h2 h.2)]
    · by_cases h2 : F = true
      · rw [if_pos h2, if_neg h1, if_neg (fun h => h1 h.1)]
      · rw [if_neg h2, if_neg h1, if_neg (fun h => h1 h.1), hidem])
  clear hx5 hidem
  have HT := Lib.hid ht; have HU := Lib.hid hu; have HW := Lib.hid hwi; have HX := Lib.hid hx2; have HF := Lib.hid hf; have HFT := Lib.hid hft
  clear ht hu hwi hx2 hf hF hT hL hE hK hLl htb hft hFd
  have hv2 : (v : Int) ≤ 255 := by omega
  by_cases h64 : 64 < v
  case' pos =>
    have d1 : decide ((64 : Int) < (v : Int)) = true := by simp; omega
    have hx := HX.out
    rw [if_pos h64] at hx
    go_enter Tryd.func14, Tryd.ntmps14
    go_wp2_with fail
    refine HF.out.mono ?_
    rintro e w1 ⟨rfl, hS1, hG1⟩
    go_wp2_with fail
    refine (fail_is 5 hS1).mono ?_
    rintro e w2 ⟨rfl, hS2, hG2⟩
    rw [← hx] at hS2
    have hG02 := only_trans hG1 hG2
    clear hS1 hG1 hG2 hx
    go_wp2_with fail
  case' neg =>
    have d1 : decide ((64 : Int) < (v : Int)) = false := by simp; omega
    have hx := HX.out
    rw [if_neg h64] at hx
    go_enter Tryd.func14, Tryd.ntmps14
    go_wp2_with fail
    refine HF.out.mono ?_
    rintro e w2 ⟨rfl, hS2, hG02⟩
    rw [← hx] at hS2
    clear hx
    go_wp2_with fail
  all_goals
    clear h64 d1 HF
    refine (left_is hS2).mono ?_
    rintro e w3 ⟨rfl, hd3⟩
    have hS3 := hS2.next (hd3.below (Below.refl _ _))
    have hG03 := only_trans hG02 (only_below (World.grownBy.refl w2 _) (hd3.below (Below.refl _ _)))
    go_wp2_with fail
    refine (HT.out w3 hS3).mono ?_
    rintro e w4 ⟨⟨A4, m4, c4, rfl, r4⟩, hS4, hG4⟩
    have hG04 := only_trans hG03 hG4
    go_wp2_with fail
    refine (HU.out A4 m4 c4 w4 r4).mono ?_
    rintro e w5 ⟨v5, rfl, hown5, hb5⟩
    obtain ⟨A5, c5, rfl, _, _, r5⟩ := own_slice hown5
    have hS5 := hS4.next hb5
    have hG05 := only_below hG04 hb5
    go_wp2_with fail
    refine (fail_is (E : Int) hS5).mono ?_
    rintro e w6 ⟨rfl, hS6, hG6⟩
    have hlt := hS5.lt
    have hgw : g < w.heap.size := h.lt
    have hz4 := hG04.size
    have hown6 := own_before hown5 hG6 (fun r hr => by injection hr with hr; omega)
    have r6 := Reads.of_own hown6
    have hG06 := only_trans hG05 hG6
    clear hS2 hS3 hS4 hS5 hG02 hG03 hG4 hG04 hG05 hb5 r4 r5 hown5 hG6 hd3
    go_wp2_with fail
    refine (HW.out A5 L.length c5 w6 r6).mono ?_
    rintro e w' ⟨rfl, rfl⟩
    by_cases hKv : K = v
    · have q1 : ((K : Int) != (v : Int)) = false := by simp; omega
      go_wp2_with fail
      refine (HFT.out A5 L.length c5 w6 r6).mono ?_
      rintro e w7 ⟨rfl, hb7⟩
      have hown7 := own_below hown6 hb7
      have hS7 := hS6.next hb7
      have hG07 := only_below hG06 hb7
      clear hown6 hS6 hG06 r6 hb7
      cases F with
      | true =>
        have h5 := HX5.out
        rw [if_pos ⟨hKv, rfl⟩] at h5
        rw [← h5] at hS7
        clear h5 hKv
        go_wp2_with fail
        go_ret
        exact ⟨_, rfl, own_base hown7 hz4, hS7, hG07⟩
      | false =>
        have h5 := HX5.out
        rw [if_neg (fun h => by cases h.2)] at h5
        clear hKv
        go_wp2_with fail
        refine (fail_is 4 hS7).mono ?_
        rintro e w8 ⟨rfl, hS8, hG8⟩
        rw [← h5] at hS8
        clear h5
        have hlt7 := hS7.lt
        have hown8 := own_before hown7 hG8 (fun r hr => by injection hr with hr; omega)
        go_wp2_with fail
        go_ret
        exact ⟨_, rfl, own_base hown8 hz4, hS8, only_trans hG07 hG8⟩
    · have q1 : ((K : Int) != (v : Int)) = true := by simp; omega
      have h5 := HX5.out
      rw [if_neg (fun h => hKv h.1)] at h5
      clear hKv
      go_wp2_with fail
      refine (fail_is 4 hS6).mono ?_
      rintro e w7 ⟨rfl, hS7, hG7⟩
      rw [← h5] at hS7
      clear h5
      have hown7 := own_before hown6 hG7 (fun r hr => by injection hr with hr; omega)
      go_wp2_with fail
      go_ret
      exact ⟨_, rfl, own_base hown7 hz4, hS7, only_trans hG06 hG7⟩
end Go.Proofs.YtpjmenaejfdiaaaDoor

/- Contract of package num's Zag. -/
namespace Go.Proofs.YtpjmenaejfdiaaaDoor
open Go.RowKit
set_option linter.unusedVariables false
set_option linter.unusedSimpArgs false
set_option maxRecDepth 100000

theorem zag_any (v : Nat) (w : World) (hv : v < 18446744073709551616) : Calls Tryd.prog 12 #[.int .u64 (v : Int)] w fun e w' => e = .returned (.int .i64 (zagI v)) ∧ w = w' := by
  have HZ := Lib.hid (zag_is v hv)
  go_enter Tryd.func12, Tryd.ntmps12
  go_wp2_with fail
  go_ret
  exact ⟨ret_of (congrArg (Value.int .i64) HZ.out), rfl⟩
end Go.Proofs.YtpjmenaejfdiaaaDoor

/- Contract of the reader's Var, at its beginning: the first short number. -/
namespace Go.Proofs.YtpjmenaejfdiaaaDoor
open Go.RowKit
set_option linter.unusedVariables false
set_option linter.unusedSimpArgs false

theorem var_0 {w : World} {g : Nat} {b : List Nat} (h : RdS w g b 0 none) :
    Calls Tryd.prog 13 #[.pointer (some ⟨g, 0, none⟩)] w fun e w' => e = .returned (.int .u64 (vv b 0 : Int)) ∧ RdTo w g b (vst b 1).1 (vst b 1).2 w' := var_is h
end Go.Proofs.YtpjmenaejfdiaaaDoor

/- A reader stands while a row behind it is written. -/
namespace Go.Proofs.YtpjmenaejfdiaaaDoor
open Go.RowKit
set_option linter.unusedVariables false
set_option linter.unusedSimpArgs false
set_option maxRecDepth 100000

theorem RdS.store {w : World} {g h : Nat} {l : List Nat} {at_ : Nat} {x : Option (Int × Nat)} (hS : RdS w g l at_ x) {t : TypeId} {cs : Array Value} (hb : Blk w h t cs) (hg : g < h) (ht : t ≠ 84) (i : Nat) (u : Value) :
    RdS (w.setCell ⟨h, i, none⟩ u) g l at_ x := by
  obtain ⟨A, n, c, err, hR, hE⟩ := hS
  exact ⟨A, n, c, err, ⟨hR.blk.far (p := ⟨h, i, none⟩) (by show g ≠ h; omega) u, hR.reads.setCell (p := ⟨h, i, none⟩) (by show g ≤ h; omega) u, hR.cap, hR.place, hR.size, hR.byte⟩,
    hE.next fun f t' cs' hf ht' => hf.far (p := ⟨h, i, none⟩) (hf.type_ne hb (by rw [ht']; exact fun e => ht e.symm)) u⟩
theorem RdS.alloc {w : World} {g : Nat} {l : List Nat} {at_ : Nat} {x : Option (Int × Nat)} (hS : RdS w g l at_ x) (o : Obj) : RdS (w.alloc o) g l at_ x :=
  hS.next ((Below.refl _ _).alloc (Nat.le_refl _) _)
end Go.Proofs.YtpjmenaejfdiaaaDoor
