/- Texts joined: CkReadO BmRead CkReadN. -/
import Derived.Deep.RegionWith
import Derived.Test.YthlfplljbbnaoaaGreatDoorJ41
import Derived.Test.YthlfplljbbnaoaaGreatDoorJ11
import Derived.Test.YthlfplljbbnaoaaGreatDoorJ42
import Derived.Test.YthlfplljbbnaoaaGreatDoorJ25
import Derived.Test.YthlfplljbbnaoaaGreatDoorJ30
import Derived.Test.YthlfplljbbnaoaaGreatDoorJ29
import Derived.Test.YthlfplljbbnaoaaGreatDoorJ16
import Derived.Test.YthlfplljbbnaoaaGreatDoorJ9
import Derived.Test.YthlfplljbbnaoaaGreatDoorJ12
/- Contract of chunk's readOthers: the way, and in its form so many values, with all bytes that are left. -/
namespace Go.Proofs.YthlfplljbbnaoaaGreatDoor
open Go.RowKit
set_option linter.unusedVariables false
set_option linter.unusedSimpArgs false
set_option maxRecDepth 100000

/-- The reader in a world that has come of another one, and the variable that errors.As asks. -/
structure Ro (w W : World) (g : Nat) (b : List Nat) (at_ : Nat) (x : Option (Int × Nat)) : Prop where
  rd : RdS W g b at_ x
  gr : w.grownBy W (some g)
  met : Met W
section
variable {w W W' : World} {g : Nat} {b : List Nat} {at_ at' : Nat} {x x' : Option (Int × Nat)}
theorem Drawn.self {w w' : World} (h : Drawn w w') : Below w.heap.size w w' := h.below (Below.refl _ _)
theorem Ro.next (h : Ro w W g b at_ x) (hb : Below W.heap.size W W') : Ro w W' g b at_ x := ⟨h.rd.next hb, only_below h.gr hb, h.met.next hb⟩
theorem Ro.drew (h : Ro w W g b at_ x) : Ro w W.drew g b at_ x := h.next ((Drawn.one W 1).below (Below.refl _ _))
theorem Met.rd2 (h : Met W) (hS : RdS W g b at_ x) (hg : W.grownBy W' (some g)) : Met W' := by
  have hne : 0 ≠ g := by
    rintro rfl
    obtain ⟨A, n, c, err, hR, _⟩ := hS
    have h1 := hR.blk.cell 0
    unfold Met at h
    rw [h] at h1
    simp at h1
  unfold Met at h ⊢
  exact (World.cell?_of_block (hg.block _ (World.block_lt_of_cell? _ _ h) (fun e => by injection e with e; exact hne e))).trans h
theorem Ro.take (h : Ro w W g b at_ x) (hR : RdS W' g b at' x') (hG : W.grownBy W' (some g)) : Ro w W' g b at' x' := ⟨hR, only_trans h.gr hG, h.met.rd2 h.rd hG⟩
theorem FnAt.rd {f0 F : Nat} (h : FnAt W f0 F) (hS : RdS W g b at_ x) (hg : W.grownBy W' (some g)) : FnAt W' f0 F := by
  have hne : f0 ≠ g := by
    rintro rfl
    obtain ⟨A, n, c, err, hR, _⟩ := hS
    have h1 := hR.blk.cell 0
    unfold FnAt at h
    rw [h] at h1
    simp at h1
  unfold FnAt at h ⊢
  exact (World.cell?_of_block (hg.block f0 (World.block_lt_of_cell? _ _ h) (fun e => by injection e with e; exact hne e))).trans h
end
theorem getN_call {k : Nat} (hk : k < 5) (A : Option Addr) (n c g1 g2 : Nat) (m : Int) (b : List Nat) (w : World) (hr : Reads w w.heap.size 1 A n (bs b)) (hb : ∀ x ∈ b, x < 256) (hn : n ≤ 140737488355328) (hmet : Met w) (h1 : FnAt w g1 (getF k)) (h2 : FnAt w g2 (valF k)) :
    Calls Tryz.prog 84 #[.slice A n c, .int .i64 m, .pointer (some ⟨g1, 0, none⟩), .pointer (some ⟨g2, 0, none⟩)] w (CkWay w (ofV k b m) (wyE k b m)) := by
  have hc : k = 0 ∨ k = 1 ∨ k = 2 ∨ k = 3 ∨ k = 4 := by omega
  rcases hc with rfl | rfl | rfl | rfl | rfl
  · exact litG_plain A n c g1 g2 m b w hr hb hn hmet h1 h2 (wyI_len (k := 0) (by omega) hb m)
  · exact litG_runs A n c g1 g2 m b w hr hb hn hmet h1 h2 (wyI_len (k := 1) (by omega) hb m)
  · exact litG_delta A n c g1 g2 m b w hr hb hn hmet h1 h2 (wyI_len (k := 2) (by omega) hb m)
  · exact litG_dict A n c g1 g2 m b w hr hb hn hmet h1 h2 (wyI_len (k := 3) (by omega) hb m)
  · exact litG_fore A n c g1 g2 m b w hr hb hn hmet h1 h2 (wyI_len (k := 4) (by omega) hb m)
theorem getT_call (A : Option Addr) (n c g1 g2 : Nat) (m : Int) (b : List Nat) (w : World) (hr : Reads w w.heap.size 1 A n (bs b)) (hb : ∀ x ∈ b, x < 256) (hn : n ≤ 140737488355328) (hmet : Met w) (h1 : FnAt w g1 (getF 5)) (h2 : FnAt w g2 (valF 5)) :
    Calls Tryz.prog 111 #[.slice A n c, .int .i64 m, .pointer (some ⟨g1, 0, none⟩), .pointer (some ⟨g2, 0, none⟩)] w (CkWay w (ofV 5 b m) (wyE 5 b m)) :=
  litG_texts A n c g1 g2 m b w hr hb hn hmet h1 h2 (wyT_len hb m)
/-- What readOthers answers: new values, and the reader behind them. -/
def OthTo (w : World) (g : Nat) (b : List Nat) (s : List Vl × Nat × Option (Int × Nat)) (e : Ending) (w' : World) : Prop :=
  ∃ v, e = .returned v ∧ w'.ownsRow w.heap.size 42 3 v s.1.length (vs s.1) ∧ Ro w w' g b s.2.1 s.2.2
set_option maxHeartbeats 4000000 in
theorem readO_any {w : World} {g : Nat} {b : List Nat} {at_ : Nat} {x : Option (Int × Nat)} (kd m : Int) (h : RdS w g b at_ x) (hk : kd = 1 ∨ kd = 2) (hmet : Met w) :
    Calls Tryz.prog 30 #[.pointer (some ⟨g, 0, none⟩), .int .i64 kd, .int .i64 m] w (OthTo w g b (oS b at_ x kd m)) := by
  have hby := h.byte
  have hpl := h.place.2
  have hlt := h.lt
  have hf := nfix_is 1 h
  have hfs := fix_small b at_ x hby
  have HW := Lib.hid fun (way : Int) W => isWay_any way kd hk W
  unfold oS
  rcases hF : fixS b at_ x 1 with ⟨v, a1, x1⟩
  rw [hF] at hf hfs
  simp only at hf hfs ⊢
  have hwv : IntKind.i64.wrap (v : Int) = (v : Int) := IntWalk.i64_in _ (by omega)
  have htb := takeS_byte b a1 x1 ((b.length : Int) - a1) hby
  have ht := fun W (hW : RdS W g b a1 x1) => take_is ((b.length : Int) - a1) hW
  have HF0 := Lib.hid hf
  cases how : ofW (v : Int) kd with
  | false =>
    have HWW := Lib.hid fun W => (show Calls Tryz.prog 38 #[.int .i64 (v : Int), .int .i64 kd] W fun e w' => e = .returned (.bool false) ∧ Below W.heap.size W w' by have := HW.out (v : Int) W; rwa [how] at this)
    clear ht htb how hF hf hfs HW hk
    go_enter Tryz.func30, Tryz.ntmps30
    go_wp2_with fail
    refine HF0.out.mono ?_
    rintro e w1 ⟨rfl, hS1, hG1⟩
    have hR1 : Ro w w1 g b a1 x1 := ⟨hS1, hG1, hmet.rd2 h hG1⟩
    clear hS1 hG1
    go_wp2_with fail
    refine (HWW.out w1).mono ?_
    rintro e w2 ⟨rfl, hb2⟩
    have hR2 := hR1.next hb2
    clear hR1 hb2
    go_wp2_with fail
    refine (fail_is 11 hR2.rd).mono ?_
    rintro e w3 ⟨rfl, hS3, hG3⟩
    have hR3 := hR2.take hS3 hG3
    go_wp2_with fail
    go_ret
    exact ⟨_, rfl, own_nil _ _ _ _, hR3⟩
  | true =>
    simp only [if_true]
    have HWW := Lib.hid fun W => (show Calls Tryz.prog 38 #[.int .i64 (v : Int), .int .i64 kd] W fun e w' => e = .returned (.bool true) ∧ Below W.heap.size W w' by have := HW.out (v : Int) W; rwa [how] at this)
    rcases hT : takeS b a1 x1 ((b.length : Int) - a1) with ⟨t, a2, x2⟩
    rw [hT] at htb
    simp only [hT] at ht
    simp only at htb ht ⊢
    have HT := Lib.hid ht
    obtain ⟨hx1, hx2⟩ := htb
    have hfp := run_field_get
    have hr := ofW_range how
    have hk6 : v < 6 := by omega
    rcases hk with rfl | rfl
    · have h5 : ¬ v = 5 := by omega
      have h5' : v < 5 := by omega
      obtain ⟨L, hL⟩ : ∃ L, ofV v t m = L := ⟨_, rfl⟩
      obtain ⟨E, hE⟩ : ∃ E, wyE v t m = E := ⟨_, rfl⟩
      have HC := Lib.hid fun A3 m3 c3 g1 g2 W (r3 : Reads W W.heap.size 1 A3 m3 (bs t)) (hm : Met W) (h1 : FnAt W g1 (getF v)) (h2 : FnAt W g2 (valF v)) => getN_call h5' A3 m3 c3 g1 g2 m t W r3 hx1 (by have := r3.1; rw [bs_length] at this; omega) hm h1 h2
      rw [hL, hE] at HC ⊢
      have HLG := Lib.hid (show litG v = 84 from if_neg h5)
      unfold CkWay at HC
      clear ht hT how hF hf hfs HW hL hE hr
      go_enter Tryz.func30, Tryz.ntmps30
      go_wp2_with fail
      refine HF0.out.mono ?_
      rintro e w1 ⟨rfl, hS1, hG1⟩
      have hR1 : Ro w w1 g b a1 x1 := ⟨hS1, hG1, hmet.rd2 h hG1⟩
      clear hS1 hG1 HF0
      go_wp2_with fail
      refine (HWW.out w1).mono ?_
      rintro e w2 ⟨rfl, hb2⟩
      have hR2 := hR1.next hb2
      have HB := Lib.hid hR2.drew
      clear hR1 hb2 HWW hR2
      go_wp2_with fail
      go_region_with (first
        | (go_at_call 19; refine (forms_any _).mono ?_; rintro e wF ⟨ta, tb, rfl, hTb, hbF⟩; have HB := Lib.hid (HB.out.next hbF); obtain ⟨g1, g2, hv, hf1, hf2⟩ := hTb.get v (by omega); rw [HLG.out] at hv; obtain ⟨p1, p2, hpv, _, _⟩ := hTb.put v (by omega); have hix := fun W => run_index_form ta tb (k := v) (by omega) W; rw [hpv, hv, if_neg h5] at hix;  have HFN := Lib.hid (And.intro hf1 hf2); (try replace r3 := r3.next hbF))
        | (go_at_call 72; refine (left_is HB.out.rd).mono ?_; rintro e wL ⟨rfl, hdL⟩; have hbL := hdL.self; have HB := Lib.hid (HB.out.next hbL); (try have HFN := Lib.hid (And.intro (HFN.out.1.below hbL) (HFN.out.2.below hbL))))
        | (go_at_call 75; refine (HT.out _ HB.out.rd).mono ?_; rintro e wT ⟨⟨A3, m3, c3, rfl, r3⟩, hR3, hG3⟩; (try have HFN := Lib.hid (And.intro (HFN.out.1.rd HB.out.rd hG3) (HFN.out.2.rd HB.out.rd hG3))); have HB := Lib.hid (HB.out.take hR3 hG3))
        | (go_at_call 84; refine (HC.out A3 m3 c3 g1 g2 _ r3 HB.out.met HFN.out.1 HFN.out.2).mono ?_; rintro e wG ⟨vG, rfl, hownG, hbG⟩; replace hownG := own_base hownG HB.out.gr.size; have HB := Lib.hid (HB.out.next hbG)))
      all_goals
        go_wp2_with fail
        refine (fail_is E HB.out.rd).mono ?_
        rintro e w8 ⟨rfl, hS8, hG8⟩
        have hR8 := HB.out.take hS8 hG8
        have hown8 := own_before hownG hG8 (fun r hr => by injection hr with hr; omega)
        go_wp2_with fail
        go_ret
        exact ⟨_, rfl, hown8, hR8⟩
    · obtain rfl : v = 5 := by omega
      obtain ⟨L, hL⟩ : ∃ L, ofV 5 t m = L := ⟨_, rfl⟩
      obtain ⟨E, hE⟩ : ∃ E, wyE 5 t m = E := ⟨_, rfl⟩
      have HC := Lib.hid fun A3 m3 c3 g1 g2 W (r3 : Reads W W.heap.size 1 A3 m3 (bs t)) (hm : Met W) (h1 : FnAt W g1 (getF 5)) (h2 : FnAt W g2 (valF 5)) => getT_call A3 m3 c3 g1 g2 m t W r3 hx1 (by have := r3.1; rw [bs_length] at this; omega) hm h1 h2
      rw [hL, hE] at HC ⊢
      have HLG := Lib.hid (show litG 5 = 111 from rfl)
      unfold CkWay at HC
      clear ht hT how hF hf hfs HW hL hE hr
      go_enter Tryz.func30, Tryz.ntmps30
      go_wp2_with fail
      refine HF0.out.mono ?_
      rintro e w1 ⟨rfl, hS1, hG1⟩
      have hR1 : Ro w w1 g b a1 x1 := ⟨hS1, hG1, hmet.rd2 h hG1⟩
      clear hS1 hG1 HF0
      go_wp2_with fail
      refine (HWW.out w1).mono ?_
      rintro e w2 ⟨rfl, hb2⟩
      have hR2 := hR1.next hb2
      have HB := Lib.hid hR2.drew
      clear hR1 hb2 HWW hR2
      go_wp2_with fail
      go_region_with (first
        | (go_at_call 19; refine (forms_any _).mono ?_; rintro e wF ⟨ta, tb, rfl, hTb, hbF⟩; have HB := Lib.hid (HB.out.next hbF); obtain ⟨g1, g2, hv, hf1, hf2⟩ := hTb.get 5 (by omega); rw [HLG.out] at hv; obtain ⟨p1, p2, hpv, _, _⟩ := hTb.put 5 (by omega); have hix := fun W => run_index_form ta tb (k := 5) (by omega) W; rw [hpv, hv] at hix; simp only [if_true] at hix; rw [show ((5 : Nat) : Int) = 5 from rfl] at hix; have HFN := Lib.hid (And.intro hf1 hf2); (try replace r3 := r3.next hbF))
        | (go_at_call 72; refine (left_is HB.out.rd).mono ?_; rintro e wL ⟨rfl, hdL⟩; have hbL := hdL.self; have HB := Lib.hid (HB.out.next hbL); (try have HFN := Lib.hid (And.intro (HFN.out.1.below hbL) (HFN.out.2.below hbL))))
        | (go_at_call 75; refine (HT.out _ HB.out.rd).mono ?_; rintro e wT ⟨⟨A3, m3, c3, rfl, r3⟩, hR3, hG3⟩; (try have HFN := Lib.hid (And.intro (HFN.out.1.rd HB.out.rd hG3) (HFN.out.2.rd HB.out.rd hG3))); have HB := Lib.hid (HB.out.take hR3 hG3))
        | (go_at_call 111; refine (HC.out A3 m3 c3 g1 g2 _ r3 HB.out.met HFN.out.1 HFN.out.2).mono ?_; rintro e wG ⟨vG, rfl, hownG, hbG⟩; replace hownG := own_base hownG HB.out.gr.size; have HB := Lib.hid (HB.out.next hbG)))
      all_goals
        go_wp2_with fail
        refine (fail_is E HB.out.rd).mono ?_
        rintro e w8 ⟨rfl, hS8, hG8⟩
        have hR8 := HB.out.take hS8 hG8
        have hown8 := own_before hownG hG8 (fun r hr => by injection hr with hr; omega)
        go_wp2_with fail
        go_ret
        exact ⟨_, rfl, hown8, hR8⟩
end Go.Proofs.YthlfplljbbnaoaaGreatDoor

/- Contract of package bitmap's Read. -/
namespace Go.Proofs.YthlfplljbbnaoaaGreatDoor
open Go.RowKit
set_option linter.unusedVariables false
set_option linter.unusedSimpArgs false
set_option maxRecDepth 100000

theorem lef_none {l : List Nat} {n : Nat} (h : n % 8 = 0) : lef l n = false := by unfold lef; rw [h]; rfl
theorem lef_some {l : List Nat} {n : Nat} (h : 0 < n % 8) : lef l n = decide (l.getD (n / 8) 0 / 2 ^ (n % 8) ≠ 0) := by unfold lef; simp [h]
theorem hasLeft_any (A : Option Addr) (m c n : Nat) (l : List Nat) (w : World) (hr : Reads w w.heap.size 1 A m (bs l)) (hl : ∀ x ∈ l, x < 256) (hm : m = siz n) (hn : n ≤ 65536) :
    Calls Tryz.prog 133 #[.slice A m c, .int .i64 (n : Int)] w fun e w' => e = .returned (.bool (lef l n)) ∧ w = w' := by
  obtain ⟨k8, hk8⟩ : ∃ k8 : Nat, k8 = n % 8 := ⟨_, rfl⟩
  have r8 : (n : Int) % 8 = (k8 : Int) := by omega
  by_cases h8 : 0 < k8
  · have hlen : l.length = m := by have := hr.1; rw [bs_length] at this; omega
    have hm1 : m = n / 8 + 1 := by unfold siz at hm; omega
    obtain ⟨b, off, rfl, hb, hc⟩ := hr.plain (by omega)
    have hx := getD_byte hl (n / 8)
    have hcell : w.cell? ⟨b, off + n / 8, none⟩ = some (.int .u8 ((l.getD (n / 8) 0 : Nat) : Int)) := by
      refine hc _ _ ?_
      unfold bs
      rw [List.getElem?_map, List.getD_eq_getElem?_getD, List.getElem?_eq_getElem (by omega)]
      rfl
    have hlf := lef_some (l := l) (n := n) (by omega)
    obtain ⟨x, hx0⟩ : ∃ x, x = l.getD (n / 8) 0 := ⟨_, rfl⟩
    obtain ⟨kq, hkq⟩ : ∃ kq : Nat, kq = n / 8 := ⟨_, rfl⟩
    rw [← hx0, ← hkq] at hcell
    rw [← hx0] at hx hlf
    rw [← hk8] at hlf
    have rm : (m : Int) - 1 = (kq : Int) := by omega
    have hkm : kq < m := by omega
    have hkq9 : kq ≤ 8192 := by omega
    have hd8 : decide (0 < (k8 : Int)) = true := by simpa using h8
    have hk89 : k8 < 8 := by omega
    have hsh : (x : Int) / 2 ^ k8 = ((x / 2 ^ k8 : Nat) : Int) := by push_cast; rfl
    obtain ⟨y, hy⟩ : ∃ y, y = x / 2 ^ k8 := ⟨_, rfl⟩
    rw [← hy] at hsh hlf
    have hfin : ((y : Int) != 0) = decide (y ≠ 0) := by
      rw [Bool.eq_iff_iff]; simp
    have HF := Lib.hid (hlf.trans hfin.symm)
    clear hk8 hm hlen hm1 hx0 hkq hlf hy hfin hc
    go_enter Tryz.func133, Tryz.ntmps133
    go_wp2_with fail
    go_ret
    exact ⟨ret_of (congrArg Value.bool HF.out.symm), rfl⟩
  · have hd8 : decide (0 < (k8 : Int)) = false := by simpa using h8
    have HF := Lib.hid (lef_none (l := l) (n := n) (by omega))
    clear hk8 hm
    go_enter Tryz.func133, Tryz.ntmps133
    go_wp2_with fail
    go_ret
    exact ⟨ret_of (congrArg Value.bool HF.out.symm), rfl⟩
/-- What Read answers. -/
def ReadOk (w : World) (n : Nat) (l : List Nat) (e : Ending) (w' : World) : Prop := ∃ g h, e = .returned (.tuple #[.pointer (some ⟨g, 0, none⟩), .int .i64 0]) ∧ SetIn w' w.heap.size g h n l ∧ Below w.heap.size w w'
def ReadNo (w : World) (r : Nat) (e : Ending) (w' : World) : Prop := e = .returned (.tuple #[.pointer none, .int .i64 (r : Int)]) ∧ Below w.heap.size w w'
theorem rdE_arg {b : List Nat} {n : Int} (h : n < 0 ∨ 65536 < n) : rdE b n = 1 := by unfold rdE; rw [if_pos h]
theorem rdE_short {b : List Nat} {n : Nat} (h : n ≤ 65536) (h2 : b.length < siz n) : rdE b (n : Int) = 2 := by
  unfold rdE; rw [if_neg (by omega), Int.toNat_natCast, if_pos h2]
theorem rdE_long {b : List Nat} {n : Nat} (h : n ≤ 65536) (h2 : siz n < b.length) : rdE b (n : Int) = 3 := by
  unfold rdE; rw [if_neg (by omega), Int.toNat_natCast, if_neg (by omega), if_pos h2]
theorem rdE_form {b : List Nat} {n : Nat} (h : n ≤ 65536) (h2 : b.length = siz n) (h3 : lef b n = true) : rdE b (n : Int) = 4 := by
  unfold rdE; rw [if_neg (by omega), Int.toNat_natCast, if_neg (by omega), if_neg (by omega), if_pos h3]
theorem rdE_good {b : List Nat} {n : Nat} (h : n ≤ 65536) (h2 : b.length = siz n) (h3 : lef b n = false) : rdE b (n : Int) = 0 := by
  unfold rdE; rw [if_neg (by omega), Int.toNat_natCast, if_neg (by omega), if_neg (by omega), if_neg (by rw [h3]; simp)]
theorem Read_no (A : Option Addr) (m c : Nat) (n : Int) (l : List Nat) (w : World) (hr : Reads w w.heap.size 1 A m (bs l)) (hl : ∀ x ∈ l, x < 256) (hm : m ≤ 140737488355300) (he : rdE l n ≠ 0) :
    Calls Tryz.prog 74 #[.slice A m c, .int .i64 n] w (ReadNo w (rdE l n)) := by
  have hlen : l.length = m := by have := hr.1; rw [bs_length] at this; omega
  by_cases h1 : n < 0 ∨ 65536 < n
  · have HE := Lib.hid (rdE_arg (b := l) h1)
    clear hlen he
    go_enter Tryz.func74, Tryz.ntmps74
    go_wp2_with fail
    refine (New_no n w h1).mono ?_
    rintro e w' ⟨rfl, rfl⟩
    go_wp2_with fail
    go_ret2
    exact ⟨by rw [HE.out]; rfl, Below.refl _ _⟩
  obtain ⟨k, rfl⟩ : ∃ k : Nat, n = (k : Int) := ⟨n.toNat, by omega⟩
  have hk : k ≤ 65536 := by omega
  have hsz : (List.replicate (siz k) 0).length = siz k := by simp
  by_cases h2 : l.length < siz k
  · have HE := Lib.hid (rdE_short hk h2)
    have hd : decide (m < siz k) = true := by simp; omega
    clear he hlen h2
    go_enter Tryz.func74, Tryz.ntmps74
    go_wp2_with fail
    refine (New_any k w hk).mono ?_
    rintro e w1 ⟨g, h, rfl, s, hb⟩
    obtain ⟨c0, c1⟩ := s.cells
    rw [hsz] at c1
    go_wp2_with fail
    go_ret2
    exact ⟨by rw [HE.out]; rfl, hb⟩
  by_cases h3 : siz k < l.length
  · have HE := Lib.hid (rdE_long hk h3)
    have hd : decide (m < siz k) = false := by simp; omega
    have hd2 : decide (siz k < m) = true := by simp; omega
    clear he hlen h2 h3
    go_enter Tryz.func74, Tryz.ntmps74
    go_wp2_with fail
    refine (New_any k w hk).mono ?_
    rintro e w1 ⟨g, h, rfl, s, hb⟩
    obtain ⟨c0, c1⟩ := s.cells
    rw [hsz] at c1
    go_wp2_with fail
    go_ret2
    exact ⟨by rw [HE.out]; rfl, hb⟩
  by_cases h4 : lef l k = true
  · have HE := Lib.hid (rdE_form hk (by omega) h4)
    have hd : decide (m < siz k) = false := by simp; omega
    have hd2 : decide (siz k < m) = false := by simp; omega
    have hms : Hid (m = siz k) := Lib.hid (by omega)
    have HL := Lib.hid h4
    clear he hlen h2 h3 h4
    go_enter Tryz.func74, Tryz.ntmps74
    go_wp2_with fail
    refine (New_any k w hk).mono ?_
    rintro e w1 ⟨g, h, rfl, s, hb⟩
    obtain ⟨c0, c1⟩ := s.cells
    rw [hsz] at c1
    go_wp2_with fail
    refine (hasLeft_any A m c k l w1 ((hr.below hb).more hb.size) hl hms.out hk).mono ?_
    rintro e w' ⟨rfl, rfl⟩
    rw [HL.out]
    go_wp2_with fail
    go_ret2
    exact ⟨by rw [HE.out]; rfl, hb⟩
  · exact absurd (rdE_good hk (by omega) (by simpa using h4)) he
theorem Read_ok (A : Option Addr) (m c n : Nat) (l : List Nat) (w : World) (hr : Reads w w.heap.size 1 A m (bs l)) (hn : n ≤ 65536) (hk : OkS n l) :
    Calls Tryz.prog 74 #[.slice A m c, .int .i64 (n : Int)] w (ReadOk w n l) := by
  have hlen : l.length = m := by have := hr.1; rw [bs_length] at this; omega
  obtain rfl : m = siz n := by rw [← hlen, hk.len]
  have hsz : (List.replicate (siz n) 0).length = siz n := by simp
  have hcz : (bs (List.replicate (siz n) 0)).toArray.size = siz n := by simp [bs]
  have HZ := Lib.hid (And.intro hcz hlen)
  have HL := Lib.hid ((lef_no hk.len hk.byte).2 hk)
  have hm9 : siz n ≤ 8192 := by unfold siz; omega
  clear hlen hcz
  go_enter Tryz.func74, Tryz.ntmps74
  go_wp2_with fail
  refine (New_any n w hn).mono ?_
  rintro e w1 ⟨g, h, rfl, s, hb⟩
  obtain ⟨c0, c1⟩ := s.cells
  rw [hsz] at c1
  have hr1 := (hr.below hb).more hb.size
  go_wp2_with fail
  refine (hasLeft_any A (siz n) c n l w1 hr1 hk.byte rfl hn).mono ?_
  rintro e w' ⟨rfl, rfl⟩
  rw [HL.out]
  go_wp2_with (with_reducible
    refine wpList_copy_whole rfl (.tmp 37) (.tmp 38) _ _ rfl 5 Tryz.underlying25 size_u8 h (siz n) (siz n) c w1.heap.size A 5 _ (bs l) rfl rfl s.row HZ.out.1 hr1 (bs_one l) ?_
    intro w2 H2 hg2)
  go_ret2
  have hgh := s.ne
  refine ⟨g, h, rfl, ⟨hk, hn, ?_, H2.out, s.bg, s.bh⟩, hb.grown hg2 hb.size (fun k hk => by injection hk with hk; subst hk; exact s.bh)⟩
  rw [HZ.out.2]
  have h1 := s.obj.grown hg2 (fun e => hgh (by injection e))
  rwa [hsz] at h1
end Go.Proofs.YthlfplljbbnaoaaGreatDoor

/- Contract of chunk's readNothing: which of so many values are nothing, taken by a reader. -/
namespace Go.Proofs.YthlfplljbbnaoaaGreatDoor
open Go.RowKit
set_option linter.unusedVariables false
set_option linter.unusedSimpArgs false
set_option maxRecDepth 100000

theorem takeS_le (b : List Nat) (at_ : Nat) (x : Option (Int × Nat)) (k : Nat) : (takeS b at_ x (k : Int)).1.length ≤ k := by
  unfold takeS
  cases x with
  | some y => simp
  | none =>
    simp only
    split
    · simp
    · split
      · simp
      · rw [List.length_take, Int.toNat_natCast]; omega
/-- What readNothing answers: the set, or nil where it is none. -/
def NothS (w : World) (B n : Nat) (t : List Nat) (v : Value) : Prop :=
  (rdE t (n : Int) = 0 ∧ ∃ g h, v = .pointer (some ⟨g, 0, none⟩) ∧ SetIn w B g h n t) ∨ (rdE t (n : Int) ≠ 0 ∧ v = .pointer none)
set_option maxHeartbeats 1000000 in
theorem readN_any {w : World} {g : Nat} {b : List Nat} {at_ : Nat} {x : Option (Int × Nat)} (n : Nat) (h : RdS w g b at_ x) (hn : n ≤ 65536) :
    Calls Tryz.prog 29 #[.pointer (some ⟨g, 0, none⟩), .int .i64 (n : Int)] w
      fun e w' => ∃ v, e = .returned v ∧ NothS w' w.heap.size n (nS b at_ x n).1 v ∧ RdTo w g b (nS b at_ x n).2.1 (nS b at_ x n).2.2 w' := by
  have hby := h.byte
  have hpl := h.place.2
  have hlt := h.lt
  have hlen : (List.replicate (siz n) 0).length = siz n := by simp
  have hz : siz n ≤ 8192 := by unfold siz; omega
  have ht := fun W (hW : RdS W g b at_ x) => take_is (siz n : Int) hW
  have htb := (And.intro (takeS_byte b at_ x (siz n : Int) hby).1 (takeS_le b at_ x (siz n)))
  have HN := Lib.hid fun W => New_any n W hn
  unfold nS
  rcases hT : takeS b at_ x (siz n : Int) with ⟨t, a2, x2⟩
  rw [hT] at htb
  simp only [hT] at ht
  simp only at htb ht ⊢
  obtain ⟨Z, hZ⟩ : ∃ Z, siz n = Z := ⟨_, rfl⟩
  rw [hZ] at ht hlen hz HN
  have HLN := Lib.hid hlen
  have HT := Lib.hid ht
  obtain ⟨hx1, hx2⟩ := htb
  have hx3 : t.length ≤ 8192 := by omega
  by_cases hE : rdE t (n : Int) = 0
  · have hok := (rdE_ok hx1 hE).2.2
    rw [Int.toNat_natCast] at hok
    have HRD := Lib.hid fun A m c W (r : Reads W W.heap.size 1 A m (bs t)) => Read_ok A m c n t W r hn hok
    rw [hE]
    obtain ⟨C, hC⟩ : ∃ C, cnt (bit t) n = C := ⟨_, rfl⟩
    rw [hC]
    have HCN := Lib.hid fun W B g' h' (s : SetIn W B g' h' n t) => Count_any s
    rw [hC] at HCN
    have HEE := Lib.hid hE
    clear ht hlen hT hZ hE hok hC hx1 hby
    by_cases hC0 : C = 0
    case' pos =>
      subst hC0
      have HX := Lib.hid (show (if (0 : Nat) = 0 ∧ (0 : Nat) ≠ 0 then failS a2 x2 ((0 : Nat) : Int) else failS a2 (failS a2 x2 ((0 : Nat) : Int)) 4) = failS a2 (failS a2 x2 0) 4 from if_neg (fun e => e.2 rfl))
    case' neg =>
      have q : ((C : Int) == 0) = false := by simp [hC0]
      have HX := Lib.hid (show (if (0 : Nat) = 0 ∧ C ≠ 0 then failS a2 x2 ((0 : Nat) : Int) else failS a2 (failS a2 x2 ((0 : Nat) : Int)) 4) = failS a2 x2 0 from if_pos ⟨rfl, hC0⟩)
      clear hC0
    all_goals
      rw [HX.out]
      clear HX
      go_enter Tryz.func29, Tryz.ntmps29
      go_wp2_with fail
      refine (HN.out w).mono ?_
      rintro e w1 ⟨g1, h1, rfl, hS1, hb1⟩
      go_wp2_with fail
      refine (Bytes_any hS1).mono ?_
      rintro e w2 ⟨qb, rfl, _, _, hb2⟩
      rw [HLN.out]
      have hb02 := hb1.trans (hb2.mono hb1.size)
      have hR2 := h.next hb02
      clear hS1 hb1 hb2
      go_wp2_with fail
      refine (HT.out _ hR2).mono ?_
      rintro e w3 ⟨⟨A3, m3, c3, rfl, r3⟩, hR3, hG3⟩
      have hG03 := only_trans (only_below (World.grownBy.refl w (some g)) hb02) hG3
      go_wp2_with fail
      refine (HRD.out A3 m3 c3 w3 r3).mono ?_
      rintro e w4 ⟨g4, h4, rfl, hS4, hb4⟩
      have hR4 := hR3.next hb4
      have hG04 := only_below hG03 hb4
      have hz3 := hG03.size
      clear hR2 hR3 hG3 hG03 hb02 hb4 r3
      go_wp2_with fail
      refine (fail_is 0 hR4).mono ?_
      rintro e w5 ⟨rfl, hR5, hG5⟩
      have hS5 := hS4.grown hG5 (fun e => by injection e with e; have := hS4.bg; omega) (fun e => by injection e with e; have := hS4.bh; omega)
      have hG05 := only_trans hG04 hG5
      clear hR4 hG04 hG5 hS4
      go_wp2_with fail
      refine (HCN.out _ _ _ _ hS5).mono ?_
      rintro e w' ⟨rfl, rfl⟩
    · go_wp2_with fail
      go_ret
      exact ⟨_, rfl, .inl ⟨HEE.out, g4, h4, rfl, hS5.from hz3⟩, hR5, hG05⟩
    · go_wp2_with fail
      refine (fail_is 4 hR5).mono ?_
      rintro e w6 ⟨rfl, hR6, hG6⟩
      have hS6 := hS5.grown hG6 (fun e => by injection e with e; have := hS5.bg; omega) (fun e => by injection e with e; have := hS5.bh; omega)
      have hG06 := only_trans hG05 hG6
      go_wp2_with fail
      go_ret
      exact ⟨_, rfl, .inl ⟨HEE.out, g4, h4, rfl, hS6.from hz3⟩, hR6, hG06⟩
  · have HRD := Lib.hid fun A m c W (r : Reads W W.heap.size 1 A m (bs t)) => Read_no A m c (n : Int) t W r hx1 (by have := r.1; rw [bs_length] at this; omega) hE
    obtain ⟨E, hEE⟩ : ∃ E, rdE t (n : Int) = E := ⟨_, rfl⟩
    have HEE := Lib.hid hE
    rw [hEE] at HRD hE ⊢
    have HX := Lib.hid (show (if E = 0 ∧ cnt (bit t) n ≠ 0 then failS a2 x2 (E : Int) else failS a2 (failS a2 x2 (E : Int)) 4) = failS a2 (failS a2 x2 (E : Int)) 4 from if_neg (fun e => hE e.1))
    clear ht hlen hT hZ hE hEE hx1 hx2 hby
    rw [HX.out]
    clear HX
    go_enter Tryz.func29, Tryz.ntmps29
    go_wp2_with fail
    refine (HN.out w).mono ?_
    rintro e w1 ⟨g1, h1, rfl, hS1, hb1⟩
    go_wp2_with fail
    refine (Bytes_any hS1).mono ?_
    rintro e w2 ⟨qb, rfl, _, _, hb2⟩
    rw [HLN.out]
    have hb02 := hb1.trans (hb2.mono hb1.size)
    have hR2 := h.next hb02
    clear hS1 hb1 hb2
    go_wp2_with fail
    refine (HT.out _ hR2).mono ?_
    rintro e w3 ⟨⟨A3, m3, c3, rfl, r3⟩, hR3, hG3⟩
    have hG03 := only_trans (only_below (World.grownBy.refl w (some g)) hb02) hG3
    go_wp2_with fail
    refine (HRD.out A3 m3 c3 w3 r3).mono ?_
    rintro e w4 ⟨rfl, hb4⟩
    have hR4 := hR3.next hb4
    have hG04 := only_below hG03 hb4
    clear hR2 hR3 hG3 hG03 hb02 hb4 r3
    go_wp2_with fail
    refine (fail_is (E : Int) hR4).mono ?_
    rintro e w5 ⟨rfl, hR5, hG5⟩
    have hG05 := only_trans hG04 hG5
    clear hR4 hG04 hG5
    go_wp2_with fail
    refine (Count_nil w5).mono ?_
    rintro e w' ⟨rfl, rfl⟩
    go_wp2_with fail
    refine (fail_is 4 hR5).mono ?_
    rintro e w6 ⟨rfl, hR6, hG6⟩
    have hG06 := only_trans hG05 hG6
    go_wp2_with fail
    go_ret
    exact ⟨_, rfl, .inr ⟨HEE.out, rfl⟩, hR6, hG06⟩
end Go.Proofs.YthlfplljbbnaoaaGreatDoor
