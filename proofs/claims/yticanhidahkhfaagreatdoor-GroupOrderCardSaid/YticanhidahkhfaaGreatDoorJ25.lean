import Derived.Test.YticanhidahkhfaaGreatDoorJ23
import Derived.Test.YticanhidahkhfaaGreatDoorJ22
import Derived.Test.YticanhidahkhfaaGreatDoorJ24
import Derived.Test.YticanhidahkhfaaGreatDoorJ14
import Derived.Test.YticanhidahkhfaaGreatDoorJ21
import Derived.Test.YticanhidahkhfaaGreatDoorJ15
import Derived.Test.YticanhidahkhfaaGreatDoorJ1
namespace Go.Proofs.YticanhidahkhfaaGreatDoor
open Go.RowKit
set_option linter.unusedVariables false
set_option linter.unusedSimpArgs false
set_option maxRecDepth 100000
set_option maxHeartbeats 1000000 in
theorem behind_any {w : World} {g : Nat} {b : List Nat} {at_ : Nat} {x : Option (Int × Nat)} (n : Int) (h : RdS w g b at_ x) (hn : 0 ≤ n ∧ n ≤ 65536) :
    Calls Tryz.prog 213 #[.pointer (some ⟨g, 0, none⟩), .int .i64 n] w
      fun e w' => ∃ v, e = .returned v ∧ w'.ownsRow w.heap.size 109 1 v (rbS b at_ x n).1.length (us (rbS b at_ x n).1) ∧ RdTo w g b (rbS b at_ x n).2.1 (rbS b at_ x n).2.2 w' := by
  have hby := h.byte
  have hpl := h.place.2
  have hfs := fix_small b at_ x hby
  have hf := nfix_is 1 h
  have hR : rbS b at_ x n = rbS b at_ x n := rfl
  unfold rbS at hR ⊢
  clear hR
  rcases hF : fixS b at_ x 1 with ⟨v, a1, x1⟩
  rw [hF] at hf hfs
  simp only at hf hfs ⊢
  obtain ⟨x2, hx2⟩ : ∃ x2, x2 = (if 64 < v then failS a1 x1 5 else x1) := ⟨_, rfl⟩
  rw [← hx2]
  have htb := takeS_byte b a1 x2 ((b.length : Int) - a1) hby
  have ht := fun (w1 : World) (h1 : RdS w1 g b a1 x2) => take_is ((b.length : Int) - a1) h1
  rcases hT : takeS b a1 x2 ((b.length : Int) - a1) with ⟨t, a2, x3⟩
  rw [hT] at htb ht
  simp only at htb ht ⊢
  obtain ⟨L, hL⟩ : ∃ L, L = unpackS t n v := ⟨_, rfl⟩
  obtain ⟨E, hE⟩ : ∃ E, E = unpackE t n v := ⟨_, rfl⟩
  have hu := fun (A : Option Addr) (m c : Nat) (w1 : World) (h1 : Reads w1 w1.heap.size 1 A m (bs t)) => unpack_any A m c t n v w1 h1 htb.1 (by have := h1.1; rw [bs_length] at this; omega) (by omega) (by omega)
  have hLl := unpackS_lt t n v
  rw [← hL] at hLl hu ⊢
  rw [← hE] at hu ⊢
  have hwd := wd_64 L hLl.1
  obtain ⟨K, hK⟩ : ∃ K, K = wd L := ⟨_, rfl⟩
  have hwi := fun (A : Option Addr) (m c : Nat) (w1 : World) (h1 : Reads w1 w1.heap.size 1 A m (us L)) => width_any A m c L w1 h1 hLl.1 (by have := h1.1; rw [us_length] at this; omega)
  rw [← hK] at hwi hwd ⊢
  obtain ⟨x5, hx5⟩ : ∃ x5, x5 = (if K = v then failS a2 x3 (E : Int) else failS a2 (failS a2 x3 (E : Int)) 4) := ⟨_, rfl⟩
  rw [← hx5]
  have HX5 := Lib.hid hx5
  clear hx5
  have HT := Lib.hid ht; have HU := Lib.hid hu; have HW := Lib.hid hwi; have HX := Lib.hid hx2; have HF := Lib.hid hf
  clear ht hu hwi hx2 hf hF hT hL hE hK hLl htb
  have hv2 : (v : Int) ≤ 255 := by omega
  by_cases h64 : 64 < v
  case' pos =>
    have d1 : decide ((64 : Int) < (v : Int)) = true := by simp; omega
    have hx := HX.out
    rw [if_pos h64] at hx
    go_enter Tryz.func213, Tryz.ntmps213
    go_wp2_with fail
    refine HF.out.mono ?_
    rintro e w1 ⟨rfl, hS1, hG1⟩
    go_wp2_with fail
    refine (fail_is 5 hS1).mono ?_
    rintro e w2 ⟨rfl, hS2, hG2⟩
    rw [← hx] at hS2
    have hG02 := only_trans hG1 hG2
    clear hS1 hG1 hG2 hx
    go_wp2_with fail
  case' neg =>
    have d1 : decide ((64 : Int) < (v : Int)) = false := by simp; omega
    have hx := HX.out
    rw [if_neg h64] at hx
    go_enter Tryz.func213, Tryz.ntmps213
    go_wp2_with fail
    refine HF.out.mono ?_
    rintro e w2 ⟨rfl, hS2, hG02⟩
    rw [← hx] at hS2
    clear hx
    go_wp2_with fail
  all_goals
    clear h64 d1 HF
    refine (left_is hS2).mono ?_
    rintro e w3 ⟨rfl, hd3⟩
    have hS3 := hS2.next (hd3.below (Below.refl _ _))
    have hG03 := only_trans hG02 (only_below (World.grownBy.refl w2 _) (hd3.below (Below.refl _ _)))
    go_wp2_with fail
    refine (HT.out w3 hS3).mono ?_
    rintro e w4 ⟨⟨A4, m4, c4, rfl, r4⟩, hS4, hG4⟩
    have hG04 := only_trans hG03 hG4
    go_wp2_with fail
    refine (HU.out A4 m4 c4 w4 r4).mono ?_
    rintro e w5 ⟨v5, rfl, hown5, hb5⟩
    obtain ⟨A5, c5, rfl, _, _, r5⟩ := own_slice hown5
    have hS5 := hS4.next hb5
    have hG05 := only_below hG04 hb5
    go_wp2_with fail
    refine (fail_is (E : Int) hS5).mono ?_
    rintro e w6 ⟨rfl, hS6, hG6⟩
    have hlt := hS5.lt
    have hgw : g < w.heap.size := h.lt
    have hz4 := hG04.size
    have hown6 := own_before hown5 hG6 (fun r hr => by injection hr with hr; omega)
    have r6 := Reads.of_own hown6
    have hG06 := only_trans hG05 hG6
    clear hS2 hS3 hS4 hS5 hG02 hG03 hG4 hG04 hG05 hb5 r4 r5 hown5 hG6 hd3
    go_wp2_with fail
    refine (HW.out A5 L.length c5 w6 r6).mono ?_
    rintro e w' ⟨rfl, rfl⟩
    by_cases hKv : K = v
    · have q1 : ((K : Int) != (v : Int)) = false := by simp; omega
      have h5 := HX5.out
      rw [if_pos hKv] at h5
      rw [← h5] at hS6
      clear h5 hKv
      go_wp2_with fail
      go_ret
      exact ⟨_, rfl, own_base hown6 hz4, hS6, hG06⟩
    · have q1 : ((K : Int) != (v : Int)) = true := by simp; omega
      have h5 := HX5.out
      rw [if_neg hKv] at h5
      clear hKv
      go_wp2_with fail
      refine (fail_is 4 hS6).mono ?_
      rintro e w7 ⟨rfl, hS7, hG7⟩
      rw [← h5] at hS7
      clear h5
      have hown7 := own_before hown6 hG7 (fun r hr => by injection hr with hr; omega)
      go_wp2_with fail
      go_ret
      exact ⟨_, rfl, own_base hown7 hz4, hS7, only_trans hG06 hG7⟩
end Go.Proofs.YticanhidahkhfaaGreatDoor
namespace Go.Proofs.YticanhidahkhfaaGreatDoor
open Go.RowKit
set_option linter.unusedVariables false
set_option linter.unusedSimpArgs false
set_option maxRecDepth 100000
theorem RdS.app {w w' : World} {g : Nat} {l : List Nat} {at_ : Nat} {x : Option (Int × Nat)} (h : RdS w g l at_ x) {B n size : Nat} {t : TypeId} {v : Value} {xs : List Value} (hown : w.ownsRow B t size v n xs) (ht : t ≠ 133) (hgB : g < B) (o : Obj)
    (hg : (w.alloc o).grownBy w' v.ownBlock) : RdS w' g l at_ x := by
  have hown2 := hown.alloc o
  obtain ⟨A, n', c, err, hR, hE⟩ := h.alloc o
  have hlt := hR.blk.lt
  have hne : some g ≠ v.ownBlock := fun e => by have := (hown.lt g e.symm).1; omega
  refine ⟨A, n', c, err, ⟨hR.blk.grown hg hne, hR.reads.grown hg (Nat.le_of_lt hlt) (fun q hq => by have := (hown.lt q hq).1; omega), hR.cap, hR.place, hR.size, hR.byte⟩, hE.next fun f t' cs hf ht' => hf.grown hg (fun e => ?_)⟩
  rcases hown2.2 with ⟨rfl, _⟩ | ⟨q, cap, cur, rfl, _, hq, _⟩
  · cases e
  · have e2 : f = q := by simpa [Value.ownBlock] using e
    subst e2
    exact hf.type_ne (show Blk _ f t cur from hq) (by rw [ht']; exact fun e => ht e.symm) rfl
end Go.Proofs.YticanhidahkhfaaGreatDoor
namespace Go.Proofs.YticanhidahkhfaaGreatDoor
open Go.RowKit
set_option linter.unusedVariables false
set_option linter.unusedSimpArgs false
set_option maxRecDepth 100000
def OffR (w : World) (own : Option Nat) (A : Option Addr) (n : Nat) (xs : List Value) : Prop :=
  Reads w w.heap.size 1 A n xs ∧ (0 < n → ∀ ad, A = some ad → some ad.block ≠ own)
theorem OffR.reads {w : World} {own : Option Nat} {A : Option Addr} {n : Nat} {xs : List Value} (h : OffR w own A n xs) : Reads w w.heap.size 1 A n xs := h.1
theorem OffR.next {w w' : World} {own : Option Nat} {A : Option Addr} {n : Nat} {xs : List Value} (h : OffR w own A n xs) (hb : Below w.heap.size w w') : OffR w' own A n xs :=
  ⟨(h.1.below hb).more hb.size, h.2⟩
theorem OffR.alloc {w : World} {own : Option Nat} {A : Option Addr} {n : Nat} {xs : List Value} (h : OffR w own A n xs) (o : Obj) : OffR (w.alloc o) own A n xs :=
  h.next ((Below.refl _ _).alloc (Nat.le_refl _) _)
theorem OffR.grown {w w' : World} {own own' : Option Nat} {A : Option Addr} {n : Nat} {xs : List Value} (h : OffR w own A n xs) (hg : w.grownBy w' own) (ho' : own' = own ∨ own' = some w.heap.size) : OffR w' own' A n xs := by
  obtain ⟨hr, ho⟩ := h
  refine ⟨⟨hr.1, fun hn => ?_⟩, fun hn ad had => ?_⟩
  · obtain ⟨ad, had, hlt, hc⟩ := hr.2 hn
    refine ⟨ad, had, Nat.lt_of_lt_of_le hlt hg.size, fun j u hu => hg.cell (hc j u hu) ?_⟩
    rw [block_of_add]
    exact ho hn ad had
  · rcases ho' with rfl | rfl
    · exact ho hn ad had
    · obtain ⟨ad', had', hlt, _⟩ := hr.2 hn
      rw [had] at had'
      injection had' with had'
      subst had'
      intro h
      injection h with h
      omega
theorem OffR.of_own {w : World} {base : Nat} {e : TypeId} {A : Option Addr} {n c : Nat} {xs : List Value} (h : w.ownsRow base e 1 (.slice A n c) n xs) (own : Option Nat) (ho : ∀ q, own = some q → q < base) : OffR w own A n xs := by
  refine ⟨Reads.of_own h, fun hn ad had heq => ?_⟩
  subst had
  have h1 := (h.lt ad.block rfl).1
  have := ho _ heq.symm
  omega
end Go.Proofs.YticanhidahkhfaaGreatDoor
namespace Go.Proofs.YticanhidahkhfaaGreatDoor
open Go.RowKit
set_option linter.unusedVariables false
set_option linter.unusedSimpArgs false
set_option maxRecDepth 100000
set_option maxHeartbeats 1000000 in
theorem sums_any (A : Option Addr) (n c : Nat) (l : List Int) (w : World) (hr : Reads w w.heap.size 1 A n (zs l)) (hn : n ≤ 17592186044416) :
    Calls Tryz.prog 214 #[.slice A n c] w (NewZ w (sms 0 l)) := by
  have e1 : l.length = n := by have := hr.1; rw [zs_length] at this; omega
  have hXz : (zs (sms 0 l)).length = n := by rw [zs_length, sms_length, e1]
  have hmk := fun W => run_make_i64 n n (Nat.le_refl _) (by omega) W
  rw [← fillW_zero (zs (sms 0 l)) (.int .i64 0) n hXz] at hmk
  have HX := Lib.hid hXz; have E1 := Lib.hid e1
  clear hXz e1
  have hF0 := Blk.new w 2 (fillW (zs (sms 0 l)) (.int .i64 0) 0)
  have hb0 : Below w.heap.size w (w.alloc (.cells (fillW (zs (sms 0 l)) (.int .i64 0) 0) 2)) := (Below.refl _ _).alloc (Nat.le_refl _) _
  go_enter Tryz.func214, Tryz.ntmps214
  go_wp2_with fail
  clear hmk
  go_loopw [4, 12] (fun s4 s12 wr => ∃ k : Nat, k ≤ n ∧ s12 = .int .i64 (k : Int) ∧ s4 = .int .i64 (smA 0 l k) ∧ Blk wr w.heap.size 2 (fillW (zs (sms 0 l)) (.int .i64 0) k) ∧ Below w.heap.size w wr) (fun _ i _ => n - (intOf i).toNat)
  case atStart => exact ⟨0, by omega, rfl, rfl, hF0, hb0⟩
  case round =>
    clear hF0 hb0
    obtain ⟨k, hk, rfl, rfl, hF, hb⟩ := hrel
    by_cases hlt : k < n
    · obtain ⟨ad, u, rfl, _, hu, hc0⟩ := (hr.below hb).at_ hlt
      obtain ⟨z, hz, rfl⟩ := zs_at hu
      have hc := hF.cell k
      rw [fillW_old _ _ k (by rw [HX.out]; omega)] at hc
      have hf := hF.frozen k
      have HZ := Lib.hid hz
      clear hu hz
      generalize ha : smA 0 l k = a
      have HA := Lib.hid ha
      clear ha
      go_wp2_with fail
      go_round
      case rel =>
        have hs := smA_succ (p := 0) HZ.out
        rw [HA.out] at hs
        refine ⟨k + 1, by omega, by go_num, by rw [hs], ?_, hb.setCell (Nat.le_refl _) _⟩
        have h1 := hF.set_ k (.int .i64 (wrap64 (a + z)))
        rw [fillW_next _ _ k _ (zs_some (by rw [← hs]; exact sms_at l 0 k z HZ.out))] at h1
        exact h1
      case measure => simp [intOf]; omega
    · obtain rfl : k = n := by omega
      go_wp2_with fail
      go_ret
      rw [fillW_all _ _ k HX.out] at hF
      have := own_whole (B := w.heap.size) hF (Nat.le_refl _) HX.out (by unfold maxLen; omega)
      refine ⟨_, rfl, ?_, hb⟩
      rw [sms_length, E1.out]
      exact this
end Go.Proofs.YticanhidahkhfaaGreatDoor
namespace Go.Proofs.YticanhidahkhfaaGreatDoor
open Go.RowKit
set_option linter.unusedVariables false
set_option linter.unusedSimpArgs false
theorem var_0 {w : World} {g : Nat} {b : List Nat} (h : RdS w g b 0 none) :
    Calls Tryz.prog 62 #[.pointer (some ⟨g, 0, none⟩)] w fun e w' => e = .returned (.int .u64 (vv b 0 : Int)) ∧ RdTo w g b (vst b 1).1 (vst b 1).2 w' := var_is h
end Go.Proofs.YticanhidahkhfaaGreatDoor
namespace Go.Proofs.YticanhidahkhfaaGreatDoor
open Go.RowKit
set_option linter.unusedVariables false
set_option linter.unusedSimpArgs false
set_option maxRecDepth 100000
theorem dlGet_no (A : Option Addr) (n c : Nat) (b : List Nat) (k : Int) (w : World) (h : k < 0 ∨ 65536 < k) :
    Calls Tryz.prog 158 #[.slice A n c, .int .i64 k] w (NewLE w (dG b k) (dE b k)) := by
  obtain ⟨h1, h2⟩ := dE_bad (b := b) h
  rw [h1, h2]
  clear h1 h2
  by_cases hk : k < 0
  · clear h
    go_enter Tryz.func158, Tryz.ntmps158
    go_wp2_with fail
    go_ret2
    exact ⟨.slice none 0 0, rfl, own_nil _ _ _ _, Below.refl _ _⟩
  · have d1 : decide (k < 0) = false := by simp; omega
    have h2 : 65536 < k := by omega
    clear h
    go_enter Tryz.func158, Tryz.ntmps158
    go_wp2_with fail
    go_ret2
    exact ⟨.slice none 0 0, rfl, own_nil _ _ _ _, Below.refl _ _⟩
def AtEnd (w wr : World) (g : Nat) (b : List Nat) (k : Nat) (v : Value) : Prop :=
  RdS wr g b (dst b k).1 (dst b k).2 ∧ wr.ownsRow w.heap.size 2 1 v (dL b k).length (zs (dL b k)) ∧ Below w.heap.size w wr
theorem zs_cons_snoc (z y : Int) (l : List Int) : zs (z :: l) ++ [Value.int .i64 y] = zs (z :: (l ++ [y])) := by simp [zs]
theorem map_step {l : List Nat} {k v : Nat} (h : l[k]? = some v) : (l.take (k + 1)).map (fun v : Nat => zagI (v : Int)) = (l.take k).map (fun v : Nat => zagI (v : Int)) ++ [zagI (v : Int)] := by
  rw [take_snoc h]; simp
def InLoop (w wr : World) (B g : Nat) (b : List Nat) (s : Nat × Option (Int × Nat)) (A5 : Option Addr) (L : List Nat) (z0 : Int) (k : Nat) (v : Value) : Prop :=
  wr.ownsRow B 2 1 v (k + 1) (zs (z0 :: (L.take k).map fun v : Nat => zagI (v : Int))) ∧ OffR wr v.ownBlock A5 L.length (us L) ∧ RdS wr g b s.1 s.2 ∧ Below w.heap.size w wr
set_option maxHeartbeats 2000000 in
theorem dlGet_ok (A : Option Addr) (n c N : Nat) (b : List Nat) (w : World) (hr : Reads w w.heap.size 1 A n (bs b)) (hb : ∀ x ∈ b, x < 256) (hn : n ≤ 140737488355328) (hN : N ≤ 65536) (hmet : Met w) :
    Calls Tryz.prog 158 #[.slice A n c, .int .i64 (N : Int)] w (NewLE w (dG b (N : Int)) (dE b (N : Int))) := by
  obtain ⟨i1, hi1, hy0, hy1, hy2⟩ := info_parts info_i64
  have d1 : decide ((N : Int) < 0) = false := by simp
  have d2 : decide ((65536 : Int) < (N : Int)) = false := by simp; omega
  have hmk : ∀ W : World, (Instr.makeSlice 205 (.int .i64 0) (.int .i64 (N : Int))).run Tryz.prog W = .ok (.slice (some ⟨W.heap.size, 0, none⟩) 0 N) (W.alloc (.cells (madeCells #[.int .i64 0] N) 2)) := fun W => run_make_i64 0 N (Nat.zero_le _) (by omega) W
  have HE : Hid (dE b (N : Int) = (endS b (dst b N).1 (dst b N).2).1) := by
    unfold dE
    rw [if_neg (by omega), Int.toNat_natCast]
    try exact Lib.hid rfl
  have HG : Hid (dG b (N : Int) = if dE b (N : Int) = 0 then sms 0 (dL b N) else []) := by
    unfold dG
    rw [Int.toNat_natCast]
    try exact Lib.hid rfl
  have hlen := dL_length b N
  have hv0 := vv_lt hb 0
  have HB := Lib.hid hb
  clear hb
  go_enter Tryz.func158, Tryz.ntmps158
  go_wp2_with fail
  refine (newReader_any A n c b w hr hn HB.out).mono ?_
  rintro e w1 ⟨g, A1, c1, rfl, hg, hR1, hb1⟩
  have hS1 := rd_new hR1
  have hg1 := hS1.lt
  have hz1 := hb1.size
  clear hR1
  have hS2 : RdS (w1.alloc (.cells (madeCells #[.int .i64 0] N) 2)) g b 0 none := hS1.alloc _
  have hown2 : (w1.alloc (.cells (madeCells #[.int .i64 0] N) 2)).ownsRow w1.heap.size 2 1 (.slice (some ⟨w1.heap.size, 0, none⟩) 0 N) 0 [] :=
    World.ownsRow_made w1 _ _ (Nat.le_refl _) (by unfold maxLen; omega) (by rw [size_madeCells]; omega)
  have hb2 : Below w.heap.size w (w1.alloc (.cells (madeCells #[.int .i64 0] N) 2)) := hb1.alloc hz1 _
  clear hS1 hb1
  by_cases h0 : N = 0
  case' pos =>
    have h0i : ¬ 0 < N := by omega
    have h1i : ¬ 1 < N := by omega
    have hd : dst b N = (0, none) := by rw [h0]; rfl
    have hL : dL b N = [] := by rw [h0]; rfl
    have hend : AtEnd w (w1.alloc (.cells (madeCells #[.int .i64 0] N) 2)) g b N (.slice (some ⟨w1.heap.size, 0, none⟩) 0 N) := by
      unfold AtEnd
      rw [hd, hL]
      exact ⟨hS2, own_base hown2 hz1, hb2⟩
    clear hS2 hown2 hb2 hd hL h0
    go_wp2_with fail
    obtain ⟨wz, hwz⟩ : ∃ wz, wz = w1.alloc (.cells (madeCells #[.int .i64 0] N) 2) := ⟨_, rfl⟩
    rw [← hwz] at hend ⊢
    obtain ⟨vz, hvz⟩ : ∃ vz, vz = (Value.slice (some ⟨w1.heap.size, 0, none⟩) 0 N) := ⟨_, rfl⟩
    rw [← hvz] at hend ⊢
    clear hwz hvz hmk h0i h1i
  case' neg =>
    have h0i : 0 < N := by omega
    go_wp2_with fail
    refine (var_0 hS2).mono ?_
    rintro e w3 ⟨rfl, hS3, hG3⟩
    have hown3 := own_before hown2 hG3 (fun r hr => by injection hr with hr; omega)
    have hb3 : Below w.heap.size w w3 := hb2.grown hG3 hb2.size (fun j hj => by injection hj with hj; omega)
    have hz3 : w1.heap.size ≤ w3.heap.size := by have := hG3.size; simp at this; omega
    clear hS2 hown2 hb2 hG3 hmk h0i
    go_wp2_with fail
    refine (zag_any (vv b 0) w3 hv0).mono ?_
    rintro e w' ⟨rfl, rfl⟩
    by_cases h1 : N = 1
    case' pos =>
      have h1i : ¬ 1 < N := by omega
      have hd : dst b N = vst b 1 := by rw [h1]; rfl
      have hL : dL b N = [zagI (vv b 0 : Int)] := by rw [h1]; rfl
      have HD := Lib.hid (And.intro hd hL)
      clear h1 h0 hd hL
      go_wp2_with (at_builtin
                   refine wpList_append_any _ rfl (.tmp 24) (.tmp 28) _ rfl w1.heap.size 2 i1 _ 1 8 Tryz.underlying205 hi1 hy0 hy1 hy2 rfl (by omega) (.slice (some ⟨w1.heap.size, 0, none⟩) 0 N) 0 [] rfl
                     (hown3.alloc _) (w3.heap.size + 1) (some ⟨w3.heap.size, 0, none⟩) 1 1 [.int .i64 (zagI (vv b 0 : Int))] rfl (Reads.new w3 _ _) (one_int _ _) (by unfold maxLen; omega) (by omega) (by simp; omega) ?_
                   intro vz wz hown4 hg4 hat4)
      have hend : AtEnd w wz g b N vz := by
        unfold AtEnd
        rw [HD.out.1, HD.out.2]
        exact ⟨hS3.app hown3 (by decide) hg1 _ hg4, own_base hown4 hz1, below_app hb3 (own_base hown3 hz1) hb3.size hg4⟩
      clear HD h1i hS3 hown3 hb3 hown4 hg4 hat4
    case' neg =>
      have h1i : 1 < N := by omega
      have hd : dst b N = (rbS b (vst b 1).1 (vst b 1).2 ((N : Int) - 1)).2 := by unfold dst; rw [if_neg h0, if_neg h1]
      have hL : dL b N = zagI (vv b 0 : Int) :: ((rbS b (vst b 1).1 (vst b 1).2 ((N : Int) - 1)).1.map fun v : Nat => zagI (v : Int)) := by unfold dL; rw [if_neg h0, if_neg h1]
      go_wp2_with (at_builtin
                   refine wpList_append_any _ rfl (.tmp 24) (.tmp 28) _ rfl w1.heap.size 2 i1 _ 1 8 Tryz.underlying205 hi1 hy0 hy1 hy2 rfl (by omega) (.slice (some ⟨w1.heap.size, 0, none⟩) 0 N) 0 [] rfl
                     (hown3.alloc _) (w3.heap.size + 1) (some ⟨w3.heap.size, 0, none⟩) 1 1 [.int .i64 (zagI (vv b 0 : Int))] rfl (Reads.new w3 _ _) (one_int _ _) (by unfold maxLen; omega) (by omega) (by simp; omega) ?_
                   intro v4 w4 hown4 hg4 hat4)
      have hS4 := hS3.app hown3 (by decide) hg1 _ hg4
      have hz34 : w1.heap.size ≤ w4.heap.size := by have := hg4.size; simp at this; omega
      have hb4 : Below w.heap.size w w4 := below_app hb3 (own_base hown3 hz1) hb3.size hg4
      have hrb := rb_lt b (vst b 1).1 (vst b 1).2 ((N : Int) - 1)
      have hcall := behind_any ((N : Int) - 1) hS4 (by omega)
      rcases hrS : rbS b (vst b 1).1 (vst b 1).2 ((N : Int) - 1) with ⟨L, s⟩
      rw [hrS] at hrb hcall hd hL
      simp only at hrb hcall hd hL
      have HC := Lib.hid hcall; have HD := Lib.hid hd; have HL := Lib.hid hL
      obtain ⟨hrb1, hrb2⟩ := hrb
      have HV := Lib.hid hrb1
      clear hcall hd hL hrS hrb1 hS3 hown3 hb3 hg4 hat4
      go_wp2_with fail
      refine HC.out.mono ?_
      rintro e w5 ⟨v5, rfl, hown5, hS5, hG5⟩
      obtain ⟨A5, c5, rfl, _, _, _⟩ := own_slice hown5
      have hz5 := hG5.size
      have hz4 : w1.heap.size ≤ w4.heap.size := hz34
      have hO5 : OffR w5 v4.ownBlock A5 L.length (us L) := OffR.of_own hown5 _ (fun q hq => (hown4.lt q hq).2)
      have hown45 := own_before hown4 hG5 (fun r hr => by injection hr with hr; omega)
      have hb5 : Below w.heap.size w w5 := hb4.grown hG5 hb4.size (fun j hj => by injection hj with hj; omega)
      have hin : InLoop w w5 w1.heap.size g b s A5 L (zagI (vv b 0 : Int)) 0 v4 := ⟨hown45, hO5, hS5, hb5⟩
      clear hown5 hS5 hG5 hO5 hown45 hb5 hown4 hS4 hb4 HC
      go_wp2_with fail
      go_loopw [7, 37] (fun s7 s37 wr => ∃ k : Nat, k ≤ L.length ∧ s37 = .int .i64 (k : Int) ∧ w1.heap.size ≤ wr.heap.size ∧ InLoop w wr w1.heap.size g b s A5 L (zagI (vv b 0 : Int)) k s7) (fun _ i _ => L.length - (intOf i).toNat)
      case atStart => exact ⟨0, Nat.zero_le _, rfl, by omega, hin⟩
      case round =>
        clear hin
        obtain ⟨k, hk, rfl, hzr, hown, hO, hS, hbr⟩ := hrel
        by_cases hlt : k < L.length
        · obtain ⟨ad, u, rfl, _, hu, hc⟩ := hO.reads.at_ hlt
          obtain ⟨v, hv, rfl⟩ := us_at hu
          have hv64 := HV.out v (List.mem_of_getElem? hv)
          have HS := Lib.hid (map_step hv)
          clear hu hv
          go_wp2_with fail
          refine (zag_any v wr hv64).mono ?_
          rintro e w' ⟨rfl, rfl⟩
          go_wp2_with (at_builtin
                       refine wpList_append_any _ rfl (.tmp 41) (.tmp 44) _ rfl w1.heap.size 2 i1 _ 1 8 Tryz.underlying205 hi1 hy0 hy1 hy2 rfl (by omega) u7 (k + 1) (zs (zagI (vv b 0 : Int) :: (L.take k).map fun v : Nat => zagI (v : Int))) rfl
                         (hown.alloc _) (wr.heap.size + 1) (some ⟨wr.heap.size, 0, none⟩) 1 1 [.int .i64 (zagI (v : Int))] rfl (Reads.new wr _ _) (one_int _ _) (by unfold maxLen; omega) (by omega) (by simp; omega) ?_
                       intro v8 w8 hown8 hg8 hat8)
          go_round
          case rel =>
            refine ⟨k + 1, by omega, by go_num, by have := hg8.size; simp at this; omega, ?_, (hO.alloc _).grown hg8 hat8, hS.app hown (by decide) hg1 _ hg8, below_app hbr (own_base hown hz1) hbr.size hg8⟩
            rw [HS.out, ← zs_cons_snoc]
            exact hown8
          case measure => simp [intOf]; omega
        · obtain rfl : k = L.length := by omega
          have hend : AtEnd w wr g b N u7 := by
            unfold AtEnd
            rw [HD.out, HL.out]
            refine ⟨hS, ?_, hbr⟩
            rw [List.take_of_length_le (Nat.le_refl _)] at hown
            rw [List.length_cons, List.length_map]
            exact own_base hown hz1
          clear hown hO hS hbr hk
          go_wp2_with fail
          obtain ⟨wz, hwz⟩ : ∃ x, x = wr := ⟨_, rfl⟩
          rw [← hwz] at hend ⊢
          obtain ⟨vz, hvz⟩ : ∃ x, x = u7 := ⟨_, rfl⟩
          rw [← hvz] at hend ⊢
          clear hwz hvz
          obtain ⟨hSz, hownz, hbz⟩ := hend
          have hmz := hmet.next hbz
          have hcl := end_is hmz hSz
          obtain ⟨r, hr0⟩ : ∃ r, r = (endS b (dst b N).1 (dst b N).2).1 := ⟨_, rfl⟩
          obtain ⟨o, ho⟩ : ∃ o : Int, o = ((endS b (dst b N).1 (dst b N).2).2 : Int) := ⟨_, rfl⟩
          rw [← hr0, ← ho] at hcl
          rw [← hr0] at HE
          have HCL := Lib.hid hcl
          clear hr0 ho hcl hSz hmz
          refine HCL.out.mono ?_
          rintro e wy ⟨he, hby⟩
          have he' : e = .returned (.tuple #[.int .i64 r, .int .i64 o]) := he
          subst he'
          clear he HCL
          have hb0y := hbz.trans (hby.mono hbz.size)
          by_cases hrz : r = 0
          · subst hrz
            have hownY := own_below hownz hby
            obtain ⟨Az, cz, rfl, _, _, rY⟩ := own_slice hownY
            clear hownY hownz hbz hby
            go_wp2_with fail
            refine (sums_any Az (dL b N).length cz (dL b N) wy rY (by omega)).mono ?_
            rintro e wx ⟨vx, rfl, hownx, hbx⟩
            go_wp2_with fail
            go_ret2
            rw [HG.out, HE.out, if_pos rfl]
            exact ⟨vx, rfl, own_base hownx hb0y.size, hb0y.trans (hbx.mono hb0y.size)⟩
          · have q1 : (r == 0) = false := by simp [hrz]
            have q2 : (r != 0) = true := by simp [hrz]
            have H0 := Lib.hid hrz
            clear hrz hownz hbz hby
            go_wp2_with fail
            go_ret2
            rw [HG.out, HE.out, if_neg H0.out]
            exact ⟨.slice none 0 0, rfl, own_nil _ _ _ _, hb0y⟩
  all_goals
    obtain ⟨hSz, hownz, hbz⟩ := hend
    have hmz := hmet.next hbz
    have hcl := end_is hmz hSz
    obtain ⟨r, hr0⟩ : ∃ r, r = (endS b (dst b N).1 (dst b N).2).1 := ⟨_, rfl⟩
    obtain ⟨o, ho⟩ : ∃ o : Int, o = ((endS b (dst b N).1 (dst b N).2).2 : Int) := ⟨_, rfl⟩
    rw [← hr0, ← ho] at hcl
    rw [← hr0] at HE
    have HCL := Lib.hid hcl
    clear hr0 ho hcl hSz hmz
    refine HCL.out.mono ?_
    rintro e wy ⟨he, hby⟩
    have he' : e = .returned (.tuple #[.int .i64 r, .int .i64 o]) := he
    subst he'
    clear he HCL
    have hb0y := hbz.trans (hby.mono hbz.size)
    by_cases hrz : r = 0
    · subst hrz
      have hownY := own_below hownz hby
      obtain ⟨Az, cz, rfl, _, _, rY⟩ := own_slice hownY
      clear hownY hownz hbz hby
      go_wp2_with fail
      refine (sums_any Az (dL b N).length cz (dL b N) wy rY (by omega)).mono ?_
      rintro e wx ⟨vx, rfl, hownx, hbx⟩
      go_wp2_with fail
      go_ret2
      rw [HG.out, HE.out, if_pos rfl]
      exact ⟨vx, rfl, own_base hownx hb0y.size, hb0y.trans (hbx.mono hb0y.size)⟩
    · have q1 : (r == 0) = false := by simp [hrz]
      have q2 : (r != 0) = true := by simp [hrz]
      have H0 := Lib.hid hrz
      clear hrz hownz hbz hby
      go_wp2_with fail
      go_ret2
      rw [HG.out, HE.out, if_neg H0.out]
      exact ⟨.slice none 0 0, rfl, own_nil _ _ _ _, hb0y⟩
theorem dlGet_any (A : Option Addr) (n c : Nat) (k : Int) (b : List Nat) (w : World) (hr : Reads w w.heap.size 1 A n (bs b)) (hb : ∀ x ∈ b, x < 256) (hn : n ≤ 140737488355328) (hmet : Met w) :
    Calls Tryz.prog 158 #[.slice A n c, .int .i64 k] w (NewLE w (dG b k) (dE b k)) := by
  by_cases h : k < 0 ∨ 65536 < k
  · exact dlGet_no A n c b k w h
  · obtain ⟨N, rfl⟩ : ∃ N : Nat, k = (N : Int) := ⟨k.toNat, by omega⟩
    exact dlGet_ok A n c N b w hr hb hn (by omega) hmet
end Go.Proofs.YticanhidahkhfaaGreatDoor
namespace Go.Proofs.YticanhidahkhfaaGreatDoor
open Go.RowKit
set_option linter.unusedVariables false
set_option linter.unusedSimpArgs false
set_option maxRecDepth 100000
def bl (f : Nat → Bool) (n : Nat) : List Value := (List.range n).map fun j => Value.bool (f j)
theorem bl_length (f : Nat → Bool) (n : Nat) : (bl f n).length = n := by simp [bl]
theorem bl_snoc (f : Nat → Bool) (n : Nat) : bl f (n + 1) = bl f n ++ [Value.bool (f n)] := by simp [bl, List.range_succ]
theorem bl_at (f : Nat → Bool) {n j : Nat} (h : j < n) : (bl f n)[j]? = some (Value.bool (f j)) := by simp [bl, h]
theorem bl_congr {f g : Nat → Bool} {n : Nat} (h : ∀ k, k < n → f k = g k) : bl f n = bl g n := by
  unfold bl
  apply List.map_congr_left
  intro k hk
  rw [h k (by simpa using hk)]
theorem bl_take (f : Nat → Bool) {n m : Nat} (h : m ≤ n) : (bl f n).take m = bl f m := by
  unfold bl
  rw [← List.map_take, List.take_range, Nat.min_eq_left h]
theorem bl_set (f : Nat → Bool) {n k : Nat} (h : k < n) : (bl f n).set k (.bool true) = bl (fun j => decide (j = k) || f j) n := by
  apply List.ext_getElem?
  intro j
  rw [List.getElem?_set]
  by_cases hj : j < n
  · rw [bl_at _ hj, bl_at _ hj, bl_length]
    by_cases e : k = j
    · subst e; simp [h]
    · have : ¬ j = k := fun h => e h.symm
      simp [e, this]
  · rw [List.getElem?_eq_none (by rw [bl_length]; omega), List.getElem?_eq_none (by rw [bl_length]; omega)]
    by_cases e : k = j
    · omega
    · simp [e]
theorem one_bool (b : Bool) : ∀ u ∈ [Value.bool b], u.oneCell' = true := by intro u hu; simp at hu; rw [hu]; rfl
theorem info_bool : (Tryz.prog.info? 4).map (fun i => (i.zero, i.size, i.bytes)) = some (some (.bool false), 1, 1) := by kernel_rfl
theorem bl_cell {w : World} {B n : Nat} {A : Option Addr} {f : Nat → Bool} (h : Reads w B 1 A n (bl f n)) {k : Nat} (hk : k < n) : ∃ ad, A = some ad ∧ ad.block < B ∧ w.cell? (ad.add k) = some (.bool (f k)) := by
  obtain ⟨ad, u, rfl, hb, hu, hc⟩ := h.at_ hk
  rw [bl_at f hk] at hu
  obtain rfl := Option.some.inj hu
  exact ⟨ad, rfl, hb, hc⟩
end Go.Proofs.YticanhidahkhfaaGreatDoor
namespace Go.Proofs.YticanhidahkhfaaGreatDoor
open Go.RowKit
set_option linter.unusedVariables false
set_option linter.unusedSimpArgs false
def missI (f : Nat → Bool) (n : Nat) : Int := match (List.range n).find? (fun j => !f j) with | some j => (j : Int) | none => -1
theorem miss_all {f : Nat → Bool} {n : Nat} : (0 ≤ missI f n) ↔ (List.range n).all f = false := by
  unfold missI
  cases h : (List.range n).find? (fun j => !f j) with
  | none =>
    have h1 := List.find?_eq_none.1 h
    simp only
    constructor
    · intro h2; omega
    · intro h2
      have h3 : (List.range n).all f = true := List.all_eq_true.2 fun x hx => by have := h1 x hx; simpa using this
      rw [h3] at h2; cases h2
  | some j =>
    have h1 := List.find?_some h
    have h2 := List.mem_of_find?_eq_some h
    simp only
    constructor
    · intro _
      refine Bool.eq_false_iff.2 fun h3 => ?_
      have := List.all_eq_true.1 h3 j h2
      rw [this] at h1; cases h1
    · intro _; omega
theorem find_step {f : Nat → Bool} {n : Nat} {k : Nat} (hk : k ≤ n) (h : ∀ j, j < k → f j = true) : (k < n → f k = false → missI f n = (k : Int)) ∧ (k = n → missI f n = -1) := by
  constructor
  · intro hlt hf
    unfold missI
    have e : List.range n = List.range k ++ (List.range (n - k)).map (k + ·) := by
      rw [← List.range_add]; congr 1; omega
    have e1 : (List.range k).find? (fun j => !f j) = none := List.find?_eq_none.2 fun x hx => by
      have := h x (by simpa using hx)
      simp [this]
    have e2 : ((List.range (n - k)).map (k + ·)).find? (fun j => !f j) = some k := by
      obtain ⟨m, hm⟩ : ∃ m, n - k = m + 1 := ⟨n - k - 1, by omega⟩
      rw [hm, List.range_succ_eq_map, List.map_cons, List.find?_cons_of_pos (by simp [hf])]
      rfl
    rw [e, List.find?_append, e1, e2]
    rfl
  · intro he
    subst he
    unfold missI
    rw [List.find?_eq_none.2 fun x hx => by have := h x (by simpa using hx); simp [this]]
end Go.Proofs.YticanhidahkhfaaGreatDoor
