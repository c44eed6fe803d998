/- Texts joined: DlBehind RdFar RdApp OffR ZagF. -/
import Derived.Test.YteadmjgkmjeanaaDoorJ27
import Derived.Test.YteadmjgkmjeanaaDoorTake
import Derived.Test.YteadmjgkmjeanaaDoorJ30
import Derived.Test.YteadmjgkmjeanaaDoorRdE
import Derived.Test.YteadmjgkmjeanaaDoorZigP
import Derived.Test.YteadmjgkmjeanaaDoorJ2
/- Contract of package delta's readBehind: the turned steps behind the first number; what the reader keeps. -/
namespace Go.Proofs.YteadmjgkmjeanaaDoor
open Go.RowKit
set_option linter.unusedVariables false
set_option linter.unusedSimpArgs false
set_option maxRecDepth 100000

theorem RdS.byte {w : World} {g : Nat} {l : List Nat} {at_ : Nat} {x : Option (Int × Nat)} (h : RdS w g l at_ x) : ∀ b ∈ l, b < 256 := by
  obtain ⟨A, n, c, err, hR, _⟩ := h
  exact hR.byte
theorem fix_small (b : List Nat) (at_ : Nat) (x : Option (Int × Nat)) (hb : ∀ v ∈ b, v < 256) : (fixS b at_ x 1).1 < 256 := by
  cases x with
  | some y => show (0 : Nat) < 256; omega
  | none =>
    cases h : b[at_]? with
    | none =>
      have := List.getElem?_eq_none_iff.1 h
      unfold fixS
      simp only
      rw [if_neg (by omega), if_pos (by omega)]
      show (0 : Nat) < 256
      omega
    | some v => rw [fix_byte b at_ v h]; exact hb v (List.mem_of_getElem? h)
theorem takeS_byte (b : List Nat) (at_ : Nat) (x : Option (Int × Nat)) (n : Int) (hb : ∀ v ∈ b, v < 256) : (∀ v ∈ (takeS b at_ x n).1, v < 256) ∧ (takeS b at_ x n).1.length ≤ b.length := by
  unfold takeS
  cases x with
  | some y => simp
  | none =>
    simp only
    split
    · simp
    · split
      · simp
      · refine ⟨fun v hv => hb v (List.mem_of_mem_drop (List.mem_of_mem_take hv)), ?_⟩
        simp only [List.length_take, List.length_drop]; omega
set_option maxHeartbeats 1000000 in
theorem behind_any {w : World} {g : Nat} {b : List Nat} {at_ : Nat} {x : Option (Int × Nat)} (n : Int) (h : RdS w g b at_ x) (hn : 0 ≤ n ∧ n ≤ 65536) :
    Calls Tryd.prog 16 #[.pointer (some ⟨g, 0, none⟩), .int .i64 n] w
      fun e w' => ∃ v, e = .returned v ∧ w'.ownsRow w.heap.size 40 1 v (rbS b at_ x n).1.length (us (rbS b at_ x n).1) ∧ RdTo w g b (rbS b at_ x n).2.1 (rbS b at_ x n).2.2 w' := by
  have hby := h.byte
  have hpl := h.place.2
  have hfs := fix_small b at_ x hby
  have hf := nfix_is 1 h
  have hR : rbS b at_ x n = rbS b at_ x n := rfl
  unfold rbS at hR ⊢
  clear hR
  rcases hF : fixS b at_ x 1 with ⟨v, a1, x1⟩
  rw [hF] at hf hfs
  simp only at hf hfs ⊢
  obtain ⟨x2, hx2⟩ : ∃ x2, x2 = (if 64 < v then failS a1 x1 5 else x1) := ⟨_, rfl⟩
  rw [← hx2]
  have htb := takeS_byte b a1 x2 ((b.length : Int) - a1) hby
  have ht := fun (w1 : World) (h1 : RdS w1 g b a1 x2) => take_is ((b.length : Int) - a1) h1
  rcases hT : takeS b a1 x2 ((b.length : Int) - a1) with ⟨t, a2, x3⟩
  rw [hT] at htb ht
  simp only at htb ht ⊢
  obtain ⟨L, hL⟩ : ∃ L, L = unpackS t n v := ⟨_, rfl⟩
  obtain ⟨E, hE⟩ : ∃ E, E = unpackE t n v := ⟨_, rfl⟩
  have hu := fun (A : Option Addr) (m c : Nat) (w1 : World) (h1 : Reads w1 w1.heap.size 1 A m (bs t)) => unpack_any A m c t n v w1 h1 htb.1 (by have := h1.1; rw [bs_length] at this; omega) (by omega) (by omega)
  have hLl := unpackS_lt t n v
  rw [← hL] at hLl hu ⊢
  rw [← hE] at hu ⊢
  have hwd := wd_64 L hLl.1
  obtain ⟨K, hK⟩ : ∃ K, K = wd L := ⟨_, rfl⟩
  have hwi := fun (A : Option Addr) (m c : Nat) (w1 : World) (h1 : Reads w1 w1.heap.size 1 A m (us L)) => width_any A m c L w1 h1 hLl.1 (by have := h1.1; rw [us_length] at this; omega)
  rw [← hK] at hwi hwd ⊢
  obtain ⟨x5, hx5⟩ : ∃ x5, x5 = (if K = v then failS a2 x3 (E : Int) else failS a2 (failS a2 x3 (E : Int)) 4) := ⟨_, rfl⟩
  rw [← hx5]
  have HX5 := Lib.hid hx5
  clear hx5
  have HT := Lib.hid ht; have HU := Lib.hid hu; have HW := Lib.hid hwi; have HX := Lib.hid hx2; have HF := Lib.hid hf
  clear ht hu hwi hx2 hf hF hT hL hE hK hLl htb
  have hv2 : (v : Int) ≤ 255 := by omega
  by_cases h64 : 64 < v
  case' pos =>
    have d1 : decide ((64 : Int) < (v : Int)) = true := by simp; omega
    have hx := HX.out
    rw [if_pos h64] at hx
    go_enter Tryd.func16, Tryd.ntmps16
    go_wp2_with fail
    refine HF.out.mono ?_
    rintro e w1 ⟨rfl, hS1, hG1⟩
    go_wp2_with fail
    refine (fail_is 5 hS1).mono ?_
    rintro e w2 ⟨rfl, hS2, hG2⟩
    rw [← hx] at hS2
    have hG02 := only_trans hG1 hG2
    clear hS1 hG1 hG2 hx
    go_wp2_with fail
  case' neg =>
    have d1 : decide ((64 : Int) < (v : Int)) = false := by simp; omega
    have hx := HX.out
    rw [if_neg h64] at hx
    go_enter Tryd.func16, Tryd.ntmps16
    go_wp2_with fail
    refine HF.out.mono ?_
    rintro e w2 ⟨rfl, hS2, hG02⟩
    rw [← hx] at hS2
    clear hx
    go_wp2_with fail
  all_goals
    clear h64 d1 HF
    refine (left_is hS2).mono ?_
    rintro e w3 ⟨rfl, hd3⟩
    have hS3 := hS2.next (hd3.below (Below.refl _ _))
    have hG03 := only_trans hG02 (only_below (World.grownBy.refl w2 _) (hd3.below (Below.refl _ _)))
    go_wp2_with fail
    refine (HT.out w3 hS3).mono ?_
    rintro e w4 ⟨⟨A4, m4, c4, rfl, r4⟩, hS4, hG4⟩
    have hG04 := only_trans hG03 hG4
    go_wp2_with fail
    refine (HU.out A4 m4 c4 w4 r4).mono ?_
    rintro e w5 ⟨v5, rfl, hown5, hb5⟩
    obtain ⟨A5, c5, rfl, _, _, r5⟩ := own_slice hown5
    have hS5 := hS4.next hb5
    have hG05 := only_below hG04 hb5
    go_wp2_with fail
    refine (fail_is (E : Int) hS5).mono ?_
    rintro e w6 ⟨rfl, hS6, hG6⟩
    have hlt := hS5.lt
    have hgw : g < w.heap.size := h.lt
    have hz4 := hG04.size
    have hown6 := own_before hown5 hG6 (fun r hr => by injection hr with hr; omega)
    have r6 := Reads.of_own hown6
    have hG06 := only_trans hG05 hG6
    clear hS2 hS3 hS4 hS5 hG02 hG03 hG4 hG04 hG05 hb5 r4 r5 hown5 hG6 hd3
    go_wp2_with fail
    refine (HW.out A5 L.length c5 w6 r6).mono ?_
    rintro e w' ⟨rfl, rfl⟩
    by_cases hKv : K = v
    · have q1 : ((K : Int) != (v : Int)) = false := by simp; omega
      have h5 := HX5.out
      rw [if_pos hKv] at h5
      rw [← h5] at hS6
      clear h5 hKv
      go_wp2_with fail
      go_ret
      exact ⟨_, rfl, own_base hown6 hz4, hS6, hG06⟩
    · have q1 : ((K : Int) != (v : Int)) = true := by simp; omega
      have h5 := HX5.out
      rw [if_neg hKv] at h5
      clear hKv
      go_wp2_with fail
      refine (fail_is 4 hS6).mono ?_
      rintro e w7 ⟨rfl, hS7, hG7⟩
      rw [← h5] at hS7
      clear h5
      have hown7 := own_before hown6 hG7 (fun r hr => by injection hr with hr; omega)
      go_wp2_with fail
      go_ret
      exact ⟨_, rfl, own_base hown7 hz4, hS7, only_trans hG06 hG7⟩
end Go.Proofs.YteadmjgkmjeanaaDoor

/- A reader stands while a row behind it is written. -/
namespace Go.Proofs.YteadmjgkmjeanaaDoor
open Go.RowKit
set_option linter.unusedVariables false
set_option linter.unusedSimpArgs false
set_option maxRecDepth 100000

theorem RdS.store {w : World} {g h : Nat} {l : List Nat} {at_ : Nat} {x : Option (Int × Nat)} (hS : RdS w g l at_ x) {t : TypeId} {cs : Array Value} (hb : Blk w h t cs) (hg : g < h) (ht : t ≠ 83) (i : Nat) (u : Value) :
    RdS (w.setCell ⟨h, i, none⟩ u) g l at_ x := by
  obtain ⟨A, n, c, err, hR, hE⟩ := hS
  exact ⟨A, n, c, err, ⟨hR.blk.far (p := ⟨h, i, none⟩) (by show g ≠ h; omega) u, hR.reads.setCell (p := ⟨h, i, none⟩) (by show g ≤ h; omega) u, hR.cap, hR.place, hR.size, hR.byte⟩,
    hE.next fun f t' cs' hf ht' => hf.far (p := ⟨h, i, none⟩) (hf.type_ne hb (by rw [ht']; exact fun e => ht e.symm)) u⟩
theorem RdS.alloc {w : World} {g : Nat} {l : List Nat} {at_ : Nat} {x : Option (Int × Nat)} (hS : RdS w g l at_ x) (o : Obj) : RdS (w.alloc o) g l at_ x :=
  hS.next ((Below.refl _ _).alloc (Nat.le_refl _) _)
end Go.Proofs.YteadmjgkmjeanaaDoor

/- A reader stands while a row of numbers behind it grows. -/
namespace Go.Proofs.YteadmjgkmjeanaaDoor
open Go.RowKit
set_option linter.unusedVariables false
set_option linter.unusedSimpArgs false
set_option maxRecDepth 100000

theorem RdS.app {w w' : World} {g : Nat} {l : List Nat} {at_ : Nat} {x : Option (Int × Nat)} (h : RdS w g l at_ x) {B n : Nat} {t : TypeId} {v : Value} {xs : List Value} (hown : w.ownsRow B t 1 v n xs) (ht : t ≠ 83) (hgB : g < B) (o : Obj)
    (hg : (w.alloc o).grownBy w' v.ownBlock) : RdS w' g l at_ x := by
  have hown2 := hown.alloc o
  obtain ⟨A, n', c, err, hR, hE⟩ := h.alloc o
  have hlt := hR.blk.lt
  have hne : some g ≠ v.ownBlock := fun e => by have := (hown.lt g e.symm).1; omega
  refine ⟨A, n', c, err, ⟨hR.blk.grown hg hne, hR.reads.grown hg (Nat.le_of_lt hlt) (fun q hq => by have := (hown.lt q hq).1; omega), hR.cap, hR.place, hR.size, hR.byte⟩, hE.next fun f t' cs hf ht' => hf.grown hg (fun e => ?_)⟩
  rcases hown2.2 with ⟨rfl, _⟩ | ⟨q, cap, cur, rfl, _, hq, _⟩
  · cases e
  · have e2 : f = q := by simpa [Value.ownBlock] using e
    subst e2
    exact hf.type_ne (show Blk _ f t cur from hq) (by rw [ht']; exact fun e => ht e.symm) rfl
end Go.Proofs.YteadmjgkmjeanaaDoor

/- A slice that reads as values off the block of a row that grows: it stands, and lies off it still. No program. -/
namespace Go.Proofs.YteadmjgkmjeanaaDoor
open Go.RowKit
set_option linter.unusedVariables false
set_option linter.unusedSimpArgs false
set_option maxRecDepth 100000

def OffR (w : World) (own : Option Nat) (A : Option Addr) (n : Nat) (xs : List Value) : Prop :=
  Reads w w.heap.size 1 A n xs ∧ (0 < n → ∀ ad, A = some ad → some ad.block ≠ own)
theorem OffR.reads {w : World} {own : Option Nat} {A : Option Addr} {n : Nat} {xs : List Value} (h : OffR w own A n xs) : Reads w w.heap.size 1 A n xs := h.1
theorem OffR.next {w w' : World} {own : Option Nat} {A : Option Addr} {n : Nat} {xs : List Value} (h : OffR w own A n xs) (hb : Below w.heap.size w w') : OffR w' own A n xs :=
  ⟨(h.1.below hb).more hb.size, h.2⟩
theorem OffR.alloc {w : World} {own : Option Nat} {A : Option Addr} {n : Nat} {xs : List Value} (h : OffR w own A n xs) (o : Obj) : OffR (w.alloc o) own A n xs :=
  h.next ((Below.refl _ _).alloc (Nat.le_refl _) _)
theorem OffR.grown {w w' : World} {own own' : Option Nat} {A : Option Addr} {n : Nat} {xs : List Value} (h : OffR w own A n xs) (hg : w.grownBy w' own) (ho' : own' = own ∨ own' = some w.heap.size) : OffR w' own' A n xs := by
  obtain ⟨hr, ho⟩ := h
  refine ⟨⟨hr.1, fun hn => ?_⟩, fun hn ad had => ?_⟩
  · obtain ⟨ad, had, hlt, hc⟩ := hr.2 hn
    refine ⟨ad, had, Nat.lt_of_lt_of_le hlt hg.size, fun j u hu => hg.cell (hc j u hu) ?_⟩
    rw [block_of_add]
    exact ho hn ad had
  · rcases ho' with rfl | rfl
    · exact ho hn ad had
    · obtain ⟨ad', had', hlt, _⟩ := hr.2 hn
      rw [had] at had'
      injection had' with had'
      subst had'
      intro h
      injection h with h
      omega
/-- A new row lies off one that was there. -/
theorem OffR.of_own {w : World} {base : Nat} {e : TypeId} {A : Option Addr} {n c : Nat} {xs : List Value} (h : w.ownsRow base e 1 (.slice A n c) n xs) (own : Option Nat) (ho : ∀ q, own = some q → q < base) : OffR w own A n xs := by
  refine ⟨Reads.of_own h, fun hn ad had heq => ?_⟩
  subst had
  have h1 := (h.lt ad.block rfl).1
  have := ho _ heq.symm
  omega
end Go.Proofs.YteadmjgkmjeanaaDoor

/- Contract of package num's Zag. -/
namespace Go.Proofs.YteadmjgkmjeanaaDoor
open Go.RowKit
set_option linter.unusedVariables false
set_option linter.unusedSimpArgs false
set_option maxRecDepth 100000

theorem zag_any (v : Nat) (w : World) (hv : v < 18446744073709551616) : Calls Tryd.prog 14 #[.int .u64 (v : Int)] w fun e w' => e = .returned (.int .i64 (zagI v)) ∧ w = w' := by
  have HZ := Lib.hid (zag_is v hv)
  go_enter Tryd.func14, Tryd.ntmps14
  go_wp2_with fail
  go_ret
  exact ⟨ret_of (congrArg (Value.int .i64) HZ.out), rfl⟩
end Go.Proofs.YteadmjgkmjeanaaDoor
