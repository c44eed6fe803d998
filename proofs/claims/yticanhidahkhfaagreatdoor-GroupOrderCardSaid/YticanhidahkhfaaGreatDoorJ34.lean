import Derived.Test.YticanhidahkhfaaGreatDoorJ33
import Derived.Test.YticanhidahkhfaaGreatDoorJ15
import Derived.Test.YticanhidahkhfaaGreatDoorJ8
namespace Go.Proofs.YticanhidahkhfaaGreatDoor
open Go.RowKit
set_option linter.unusedVariables false
set_option linter.unusedSimpArgs false
set_option maxRecDepth 100000
theorem bestW_nat {kd : Int} {l : List Vl} (hk : kd = 1 ∨ kd = 2) (h : ckE kd l = 0) : bestW kd l = ((bestW kd l).toNat : Int) := by
  have := ofW_range (bestW_ok hk h).1
  omega
set_option maxHeartbeats 4000000 in
theorem put_any (A : Option Addr) (n c : Nat) (kd way : Int) (l : List Vl) (w : World) (hr : Reads w w.heap.size 3 A n (vs l)) (hn : n ≤ 65536) (hi : ∀ v ∈ l, In64 v.1 ∧ In64 v.2.1) (hs : ∀ v ∈ l, v.2.2.length ≤ 65536) (hk : In64 kd) (hw : In64 way) :
    Calls Tryz.prog 39 #[.slice A n c, .int .i64 kd, .int .i64 way] w (CkPut w kd way l) := by
  have e1 : l.length = n := by have := hr.1; rw [vs_length] at this; omega
  have HR := Lib.hid (refusal_any A n c kd way l w hr hn hs)
  obtain ⟨R, hR⟩ : ∃ R, cpE kd way l = R := ⟨_, rfl⟩
  rw [hR] at HR
  by_cases h0 : R = 0
  case neg =>
    have q : (R != 0) = true := by simp [h0]
    have HN := Lib.hid fun (w' : World) (h : Below w.heap.size w w') => CkPut.no hR h0 h
    clear hR h0
    go_enter Tryz.func39, Tryz.ntmps39
    go_wp2_with fail
    refine HR.out.mono ?_
    rintro e w1 ⟨rfl, hb1⟩
    go_wp2_with fail
    go_ret2
    exact HN.out _ hb1
  case pos =>
    subst h0
    obtain ⟨hkd, hck, hof, _⟩ := cpE_ok hR
    obtain ⟨wn, hwn⟩ : ∃ wn, cpW kd way l = wn := ⟨_, rfl⟩
    rw [hwn] at hof
    have hall := (ckE_ok hck).2.2
    have HY := Lib.hid fun (v : Value) (w' : World) (ho : w'.ownsRow w.heap.size 5 1 v (lyB l wn).length (bs (lyB l wn))) (h : Below w.heap.size w w') => CkPut.yes hR hwn ho h
    have HAP := Lib.hid fun (W : World) (h : Below w.heap.size w W) => apart_any A n c l W (hr.next h) hn
    have hol := oth_length_le l
    have hfp := run_field_put
    have hl : l.length ≤ 65536 := by omega
    have HFL := Lib.hid (frm_len (way := wn) (l := l) hl (fun v hv => (hi v hv).2) hs)
    have HE := Lib.hid e1
    have hw5 : wn ≤ 5 := by have := ofW_range hof; omega
    have hcv : IntKind.u8.wrap (wn : Int) = (wn : Int) := by
      have : wn = 0 ∨ wn = 1 ∨ wn = 2 ∨ wn = 3 ∨ wn = 4 ∨ wn = 5 := by omega
      rcases this with rfl | rfl | rfl | rfl | rfl | rfl <;> rfl
    by_cases h1 : way = -1
    case' pos =>
      have hbw := bestW_nat hkd hck
      have hbn : (bestW kd l).toNat = wn := by rw [← hwn]; unfold cpW; rw [if_pos h1]
      rw [hbn] at hbw
      have HB := Lib.hid fun (W : World) (h : Below w.heap.size w W) => best_any A n c kd l W (hr.next h) hn hi hs hk
      rw [hbw] at HB
      subst h1
      clear hR hck hwn hbw hbn e1
      go_enter Tryz.func39, Tryz.ntmps39
      go_wp2_with fail
      refine HR.out.mono ?_
      rintro e w0 ⟨rfl, hb0⟩
      go_wp2_with fail
      refine (HB.out w0 hb0).mono ?_
      rintro e w1 ⟨rfl, hb1'⟩
      have hb1 := hb0.trans (hb1'.mono hb0.size)
      clear hb0 hb1' HB HR
      go_wp2_with fail
    case' neg =>
      have hwn2 : way = (wn : Int) := by
        have := ofW_range hof
        rw [← hwn]; unfold cpW; rw [if_neg h1]
        have h2 : way.toNat = wn := by rw [← hwn]; unfold cpW; rw [if_neg h1]
        unfold cpE at hR
        by_cases h3 : ofW way kd = true
        · have := ofW_range h3; omega
        · rw [if_pos (.inr ⟨h1, by simpa using h3⟩)] at hR
          cases hR
      subst hwn2
      have q : ((wn : Int) == -1) = false := by simp
      clear hR hck hwn h1 e1
      go_enter Tryz.func39, Tryz.ntmps39
      go_wp2_with fail
      refine HR.out.mono ?_
      rintro e w1 ⟨rfl, hb1⟩
      clear HR
      go_wp2_with fail
    all_goals
      refine (HAP.out w1 hb1).mono ?_
      rintro e w2 ⟨g, h, vo, rfl, hS, hO, hb2⟩
      obtain ⟨Ao, co, rfl, _, _, rO⟩ := own_slice hO
      have hb02 := hb1.trans (hb2.mono hb1.size)
      obtain ⟨m, hm0⟩ : ∃ m, (oth l).length = m := ⟨_, rfl⟩
      rw [hm0] at hol rO ⊢
      have hm : m ≤ 65536 := by omega
      clear hO hb1 hb2 HAP
      go_wp2_with fail
      refine (forms_any w2).mono ?_
      rintro e w3 ⟨a, b, rfl, hT, hb3⟩
      have hb03 := hb02.trans (hb3.mono hb02.size)
      have rO3 := rO.next hb3
      have hS3 := hS.below hb3 (Nat.le_refl _)
      have hlt : wn < 6 := by omega
      clear rO hb02 hb3 hS
      rcases hkd with rfl | rfl
      · have h5 : ¬ wn = 5 := by have := ofW_range hof; omega
        obtain ⟨g1, g2, hv, hput⟩ := tab_putN hT (show wn < 5 by omega)
        obtain ⟨q1, q2, hqb, _, _⟩ := hT.get wn hlt
        have hix := fun W => run_index_form a b hlt W
        rw [hv, hqb, if_neg h5] at hix
        have hcall := fun W (h : Below w3.heap.size w3 W) => hput Ao m co (oth l) W h (rO3.next h) hm (oth_kind hall) (fun v hv => (hi v (oth_mem hv).1).2) (fun v hv => hs v (oth_mem hv).1)
        simp only [frm_oth] at hcall
        have HC := Lib.hid hcall
        have hbg := begB_head l
        have hly : begB (setB (non l) l.length) l.length ++ ([wn] ++ frm wn l) = lyB l wn := by rw [hbg]; unfold lyB; simp
        rw [HE.out] at hly
        obtain ⟨F, hF⟩ : ∃ F, frm wn l = F := ⟨_, rfl⟩
        rw [hF] at hly HC HFL
        obtain ⟨S, hSS⟩ : ∃ S, setB (non l) n = S := ⟨_, rfl⟩
        rw [hSS] at hly hS3
        obtain ⟨H, hH⟩ : ∃ H, begB S n = H := ⟨_, rfl⟩
        rw [hH] at hly
        have hHl : H.length ≤ 8193 := by rw [← hH]; unfold begB; have := hS3.size.2; split <;> simp; omega
        have hfl : F.length ≤ 4295753740 := HFL.out
        have HL := Lib.hid (show [H, [wn], F].flatten = lyB l wn by rw [← hly]; simp)
        have HP := Lib.hid fun (W : World) (h : Below w3.heap.size w3 W) => putNothing_any (hS3.below h (Nat.le_refl _))
        rw [hH] at HP
        clear hput hcall hall hi hs hv hqb hbg hly hF hSS hH HFL hof
        go_wp2_with fail
        refine (HC.out _ (Below.refl _ _)).mono ?_
        rintro e w5 ⟨v5, rfl, hown5, hb5⟩
        obtain ⟨A5, c5, rfl, _, _, r5⟩ := own_slice hown5
        have hb05 := hb03.trans (hb5.mono hb03.size)
        clear hown5
        go_wp2_with fail
        refine (HP.out _ hb5).mono ?_
        rintro e w6 ⟨v6, rfl, hown6, hb6⟩
        obtain ⟨A6, c6, rfl, _, _, r6⟩ := own_slice hown6
        have hb06 := hb05.trans (hb6.mono hb05.size)
        have r56 := r5.next hb6
        clear hown6 hb6 r5
        have hba : Below w6.heap.size w6 (w6.alloc (.cells #[.int .u8 (wn : Nat)] 5)) := (Below.refl _ _).alloc (Nat.le_refl _) _
        have i1 : IsB (w6.alloc (.cells #[.int .u8 (wn : Nat)] 5)) (.slice A6 H.length c6) H := ⟨A6, c6, rfl, r6.next hba⟩
        have i2 : IsB (w6.alloc (.cells #[.int .u8 (wn : Nat)] 5)) (.slice (some ⟨w6.heap.size, 0, none⟩) 1 1) [wn] := ⟨_, 1, rfl, reads_blk (Blk.new w6 _ _) _ 1 _ (by simp) rfl rfl⟩
        have i3 : IsB (w6.alloc (.cells #[.int .u8 (wn : Nat)] 5)) (.slice A5 F.length c5) F := ⟨A5, c5, rfl, r56.next hba⟩
        have hb07 := hb06.trans (hba.mono hb06.size)
        have h3 := three_parts _ 48 _ _ _ H [wn] F i1 i2 i3
        rw [show (w6.alloc (.cells #[.int .u8 (wn : Nat)] 5)).heap.size = w6.heap.size + 1 by simp] at h3
        clear r6 r56 i1 i2 i3
        go_wp2_with fail
        refine (concat_any (some ⟨w6.heap.size + 1, 0, none⟩) 3 3 [H, [wn], F] _ h3 rfl (by omega) (by simp; omega)).mono ?_
        rintro e w8 ⟨v, rfl, hown, hb8⟩
        have hb7 := hb07.alloc hb07.size (.cells #[.slice A6 H.length c6, .slice (some ⟨w6.heap.size, 0, none⟩) 1 1, .slice A5 F.length c5] 48)
        rw [HL.out] at hown
        go_wp2_with fail
        go_ret2
        exact HY.out v _ (own_base hown hb7.size) (hb7.trans (hb8.mono hb7.size))
      · obtain rfl : wn = 5 := by have := ofW_range hof; omega
        obtain ⟨g1, g2, hv, hput⟩ := tab_putT hT
        obtain ⟨q1, q2, hqb, _, _⟩ := hT.get 5 hlt
        have hix := fun W => run_index_form a b hlt W
        rw [hv, hqb] at hix
        simp only [if_true] at hix
        rw [show ((5 : Nat) : Int) = 5 from rfl] at hix
        have hcall := fun W (h : Below w3.heap.size w3 W) => hput Ao m co (oth l) W h (rO3.next h) hm (oth_kind hall) (fun v hv => (hi v (oth_mem hv).1).2) (fun v hv => hs v (oth_mem hv).1)
        simp only [frm_oth] at hcall
        have HC := Lib.hid hcall
        have hbg := begB_head l
        have hly : begB (setB (non l) l.length) l.length ++ ([5] ++ frm 5 l) = lyB l 5 := by rw [hbg]; unfold lyB; simp
        rw [HE.out] at hly
        obtain ⟨F, hF⟩ : ∃ F, frm 5 l = F := ⟨_, rfl⟩
        rw [hF] at hly HC HFL
        obtain ⟨S, hSS⟩ : ∃ S, setB (non l) n = S := ⟨_, rfl⟩
        rw [hSS] at hly hS3
        obtain ⟨H, hH⟩ : ∃ H, begB S n = H := ⟨_, rfl⟩
        rw [hH] at hly
        have hHl : H.length ≤ 8193 := by rw [← hH]; unfold begB; have := hS3.size.2; split <;> simp; omega
        have hfl : F.length ≤ 4295753740 := HFL.out
        have HL := Lib.hid (show [H, [5], F].flatten = lyB l 5 by rw [← hly]; simp)
        have HP := Lib.hid fun (W : World) (h : Below w3.heap.size w3 W) => putNothing_any (hS3.below h (Nat.le_refl _))
        rw [hH] at HP
        clear hput hcall hall hi hs hv hqb hbg hly hF hSS hH HFL hof
        go_wp2_with fail
        refine (HC.out _ (Below.refl _ _)).mono ?_
        rintro e w5 ⟨v5, rfl, hown5, hb5⟩
        obtain ⟨A5, c5, rfl, _, _, r5⟩ := own_slice hown5
        have hb05 := hb03.trans (hb5.mono hb03.size)
        clear hown5
        go_wp2_with fail
        refine (HP.out _ hb5).mono ?_
        rintro e w6 ⟨v6, rfl, hown6, hb6⟩
        obtain ⟨A6, c6, rfl, _, _, r6⟩ := own_slice hown6
        have hb06 := hb05.trans (hb6.mono hb05.size)
        have r56 := r5.next hb6
        clear hown6 hb6 r5
        have hba : Below w6.heap.size w6 (w6.alloc (.cells #[.int .u8 (5 : Nat)] 5)) := (Below.refl _ _).alloc (Nat.le_refl _) _
        have i1 : IsB (w6.alloc (.cells #[.int .u8 (5 : Nat)] 5)) (.slice A6 H.length c6) H := ⟨A6, c6, rfl, r6.next hba⟩
        have i2 : IsB (w6.alloc (.cells #[.int .u8 (5 : Nat)] 5)) (.slice (some ⟨w6.heap.size, 0, none⟩) 1 1) [5] := ⟨_, 1, rfl, reads_blk (Blk.new w6 _ _) _ 1 _ (by simp) rfl rfl⟩
        have i3 : IsB (w6.alloc (.cells #[.int .u8 (5 : Nat)] 5)) (.slice A5 F.length c5) F := ⟨A5, c5, rfl, r56.next hba⟩
        have hb07 := hb06.trans (hba.mono hb06.size)
        have h3 := three_parts _ 48 _ _ _ H [5] F i1 i2 i3
        rw [show (w6.alloc (.cells #[.int .u8 (5 : Nat)] 5)).heap.size = w6.heap.size + 1 by simp] at h3
        clear r6 r56 i1 i2 i3
        go_wp2_with fail
        refine (concat_any (some ⟨w6.heap.size + 1, 0, none⟩) 3 3 [H, [5], F] _ h3 rfl (by omega) (by simp; omega)).mono ?_
        rintro e w8 ⟨v, rfl, hown, hb8⟩
        have hb7 := hb07.alloc hb07.size (.cells #[.slice A6 H.length c6, .slice (some ⟨w6.heap.size, 0, none⟩) 1 1, .slice A5 F.length c5] 48)
        rw [HL.out] at hown
        go_wp2_with fail
        go_ret2
        exact HY.out v _ (own_base hown hb7.size) (hb7.trans (hb8.mono hb7.size))
end Go.Proofs.YticanhidahkhfaaGreatDoor
namespace Go.Proofs.YticanhidahkhfaaGreatDoor
open Go.RowKit
set_option linter.unusedVariables false
set_option linter.unusedSimpArgs false
def vahd (a b : Vl) : Prop := a.1 = 1 ∧ a.2.1 < b.2.1 ∨ a.1 = 2 ∧ tlt a.2.2 b.2.2
instance (a b : Vl) : Decidable (vahd a b) := by unfold vahd; exact inferInstance
def cmpV (a b : Vl) : Int := if a.1 < b.1 then -1 else if b.1 < a.1 then 1 else if vahd a b then -1 else if vahd b a then 1 else 0
theorem cmp_cases (a b : Vl) : (a.1 < b.1 ∧ cmpV a b = -1) ∨ (b.1 < a.1 ∧ cmpV a b = 1) ∨ (a.1 = b.1 ∧ ((a.1 = 1 ∧ (a.2.1 < b.2.1 ∧ cmpV a b = -1 ∨ b.2.1 < a.2.1 ∧ cmpV a b = 1 ∨ a.2.1 = b.2.1 ∧ cmpV a b = 0)) ∨
    (a.1 = 2 ∧ (tlt a.2.2 b.2.2 ∧ cmpV a b = -1 ∨ tlt b.2.2 a.2.2 ∧ cmpV a b = 1 ∨ a.2.2 = b.2.2 ∧ cmpV a b = 0)) ∨ (a.1 ≠ 1 ∧ a.1 ≠ 2 ∧ cmpV a b = 0))) := by
  by_cases h1 : a.1 < b.1
  · exact .inl ⟨h1, by unfold cmpV; rw [if_pos h1]⟩
  by_cases h2 : b.1 < a.1
  · exact .inr (.inl ⟨h2, by unfold cmpV; rw [if_neg h1, if_pos h2]⟩)
  have h3 : a.1 = b.1 := by omega
  refine .inr (.inr ⟨h3, ?_⟩)
  have hc : cmpV a b = if vahd a b then -1 else if vahd b a then 1 else 0 := by unfold cmpV; rw [if_neg h1, if_neg h2]
  rw [hc]
  by_cases k1 : a.1 = 1
  · refine .inl ⟨k1, ?_⟩
    have e1 : vahd a b ↔ a.2.1 < b.2.1 := by unfold vahd; constructor; (rintro (⟨_, h⟩ | ⟨h, _⟩); exact h; omega); exact fun h => .inl ⟨k1, h⟩
    have e2 : vahd b a ↔ b.2.1 < a.2.1 := by unfold vahd; constructor; (rintro (⟨_, h⟩ | ⟨h, _⟩); exact h; omega); exact fun h => .inl ⟨by omega, h⟩
    by_cases l1 : a.2.1 < b.2.1
    · exact .inl ⟨l1, by rw [if_pos (e1.2 l1)]⟩
    by_cases l2 : b.2.1 < a.2.1
    · exact .inr (.inl ⟨l2, by rw [if_neg (fun h => l1 (e1.1 h)), if_pos (e2.2 l2)]⟩)
    · exact .inr (.inr ⟨by omega, by rw [if_neg (fun h => l1 (e1.1 h)), if_neg (fun h => l2 (e2.1 h))]⟩)
  by_cases k2 : a.1 = 2
  · refine .inr (.inl ⟨k2, ?_⟩)
    have e1 : vahd a b ↔ tlt a.2.2 b.2.2 := by unfold vahd; constructor; (rintro (⟨h, _⟩ | ⟨_, h⟩); omega; exact h); exact fun h => .inr ⟨k2, h⟩
    have e2 : vahd b a ↔ tlt b.2.2 a.2.2 := by unfold vahd; constructor; (rintro (⟨h, _⟩ | ⟨_, h⟩); omega; exact h); exact fun h => .inr ⟨by omega, h⟩
    by_cases l1 : tlt a.2.2 b.2.2
    · exact .inl ⟨l1, by rw [if_pos (e1.2 l1)]⟩
    by_cases l2 : tlt b.2.2 a.2.2
    · exact .inr (.inl ⟨l2, by rw [if_neg (fun h => l1 (e1.1 h)), if_pos (e2.2 l2)]⟩)
    · refine .inr (.inr ⟨Classical.byContradiction fun e => l2 (tlt_total l1 e), by rw [if_neg (fun h => l1 (e1.1 h)), if_neg (fun h => l2 (e2.1 h))]⟩)
  · refine .inr (.inr ⟨k1, k2, ?_⟩)
    rw [if_neg, if_neg]
    · unfold vahd; rintro (⟨h, _⟩ | ⟨h, _⟩) <;> omega
    · unfold vahd; rintro (⟨h, _⟩ | ⟨h, _⟩) <;> omega
theorem cmp_turn (a b : Vl) : cmpV b a = - cmpV a b := by
  rcases cmp_cases a b with ⟨h, e⟩ | ⟨h, e⟩ | ⟨h, hr⟩
  · rw [e]; rcases cmp_cases b a with ⟨h', e'⟩ | ⟨h', e'⟩ | ⟨h', _⟩ <;> omega
  · rw [e]; rcases cmp_cases b a with ⟨h', e'⟩ | ⟨h', e'⟩ | ⟨h', _⟩ <;> omega
  · rcases cmp_cases b a with ⟨h', e'⟩ | ⟨h', e'⟩ | ⟨h', hr'⟩
    · omega
    · omega
    · rcases hr with ⟨k, hr⟩ | ⟨k, hr⟩ | ⟨k, k', hr⟩
      · rcases hr' with ⟨_, hr'⟩ | ⟨_, _⟩ | ⟨_, _, _⟩
        · rcases hr with ⟨_, e⟩ | ⟨_, e⟩ | ⟨_, e⟩ <;> rcases hr' with ⟨_, e'⟩ | ⟨_, e'⟩ | ⟨_, e'⟩ <;> omega
        · omega
        · omega
      · rcases hr' with ⟨_, _⟩ | ⟨_, hr'⟩ | ⟨_, _, _⟩
        · omega
        · rcases hr with ⟨l, e⟩ | ⟨l, e⟩ | ⟨l, e⟩ <;> rcases hr' with ⟨l', e'⟩ | ⟨l', e'⟩ | ⟨l', e'⟩
          all_goals first
            | omega
            | exact absurd l' (tlt_asymm l)
            | (rw [l'] at l; exact absurd l (tlt_irrefl _))
            | (rw [l] at l'; exact absurd l' (tlt_irrefl _))
        · omega
      · rcases hr' with ⟨_, _⟩ | ⟨_, _⟩ | ⟨_, _, e'⟩ <;> omega
theorem cmp_range (a b : Vl) : cmpV a b = -1 ∨ cmpV a b = 0 ∨ cmpV a b = 1 := by
  rcases cmp_cases a b with ⟨_, e⟩ | ⟨_, e⟩ | ⟨_, ⟨_, ⟨_, e⟩ | ⟨_, e⟩ | ⟨_, e⟩⟩ | ⟨_, ⟨_, e⟩ | ⟨_, e⟩ | ⟨_, e⟩⟩ | ⟨_, _, e⟩⟩ <;> simp [e]
theorem cmp_le_iff (a b : Vl) : cmpV a b ≤ 0 ↔ a.1 < b.1 ∨ a.1 = b.1 ∧ (a.1 = 1 → a.2.1 ≤ b.2.1) ∧ (a.1 = 2 → ¬ tlt b.2.2 a.2.2) := by
  rcases cmp_cases a b with ⟨h, e⟩ | ⟨h, e⟩ | ⟨h, ⟨k, ⟨l, e⟩ | ⟨l, e⟩ | ⟨l, e⟩⟩ | ⟨k, ⟨l, e⟩ | ⟨l, e⟩ | ⟨l, e⟩⟩ | ⟨k, k', e⟩⟩
  · exact ⟨fun _ => .inl h, fun _ => by omega⟩
  · exact ⟨fun _ => by omega, fun h' => by rcases h' with h' | ⟨h', _⟩ <;> omega⟩
  · exact ⟨fun _ => .inr ⟨h, fun _ => by omega, fun _ => by omega⟩, fun _ => by omega⟩
  · exact ⟨fun _ => by omega, fun h' => by rcases h' with h' | ⟨_, h', _⟩; omega; have := h' k; omega⟩
  · exact ⟨fun _ => .inr ⟨h, fun _ => by omega, fun _ => by omega⟩, fun _ => by omega⟩
  · exact ⟨fun _ => .inr ⟨h, fun _ => by omega, fun _ => tlt_asymm l⟩, fun _ => by omega⟩
  · exact ⟨fun _ => by omega, fun h' => by rcases h' with h' | ⟨_, _, h'⟩; omega; exact absurd l (h' k)⟩
  · exact ⟨fun _ => .inr ⟨h, fun _ => by omega, fun _ => by rw [l]; exact tlt_irrefl _⟩, fun _ => by omega⟩
  · exact ⟨fun _ => .inr ⟨h, fun _ => by omega, fun _ => by omega⟩, fun _ => by omega⟩
theorem cmp_trans {a b c : Vl} (h1 : cmpV a b ≤ 0) (h2 : cmpV b c ≤ 0) : cmpV a c ≤ 0 := by
  rw [cmp_le_iff] at *
  rcases h1 with h1 | ⟨h1, n1, t1⟩
  · rcases h2 with h2 | ⟨h2, _, _⟩
    · exact .inl (by omega)
    · exact .inl (by omega)
  · rcases h2 with h2 | ⟨h2, n2, t2⟩
    · exact .inl (by omega)
    · refine .inr ⟨by omega, fun k => ?_, fun k hlt => ?_⟩
      · have := n1 k; have := n2 (by omega); omega
      · have h3 := t1 k
        have h4 := t2 (by omega)
        by_cases e : c.2.2 = b.2.2
        · rw [e] at hlt; exact h3 hlt
        · have hbc : tlt b.2.2 c.2.2 := tlt_total h4 e
          exact h3 (tlt_trans hbc hlt)
theorem cmp_trans' {a b c : Vl} (h1 : 0 ≤ cmpV a b) (h2 : 0 ≤ cmpV b c) : 0 ≤ cmpV a c := by
  have e1 := cmp_turn a b
  have e2 := cmp_turn b c
  have e3 := cmp_turn a c
  have := cmp_trans (a := c) (b := b) (c := a) (by omega) (by omega)
  omega
theorem cmp_same {a b : Vl} (ha : rgt 1 a = true ∨ rgt 2 a = true) (hb : rgt 1 b = true ∨ rgt 2 b = true) : cmpV a b = 0 ↔ a = b := by
  have hf : ∀ v : Vl, (rgt 1 v = true ∨ rgt 2 v = true) → v = (0, 0, []) ∨ (v.1 = 1 ∧ v.2.2 = []) ∨ (v.1 = 2 ∧ v.2.1 = 0) := by
    intro v hv
    rcases hv with hv | hv
    · rcases rgt_kind hv with e | ⟨e, _, e2⟩ | ⟨_, e, _⟩
      · exact .inl e
      · exact .inr (.inl ⟨e, e2⟩)
      · omega
    · rcases rgt_kind hv with e | ⟨_, e, _⟩ | ⟨e, _, e2⟩
      · exact .inl e
      · omega
      · exact .inr (.inr ⟨e, e2⟩)
  obtain ⟨a0, a1, a2⟩ := a
  obtain ⟨b0, b1, b2⟩ := b
  have fa := hf _ ha
  have fb := hf _ hb
  simp only [Prod.mk.injEq] at fa fb
  constructor
  · intro h
    rcases cmp_cases (a0, a1, a2) (b0, b1, b2) with ⟨_, e⟩ | ⟨_, e⟩ | ⟨h1, ⟨k, ⟨_, e⟩ | ⟨_, e⟩ | ⟨l, e⟩⟩ | ⟨k, ⟨_, e⟩ | ⟨_, e⟩ | ⟨l, e⟩⟩ | ⟨k, k', e⟩⟩
    all_goals try omega
    all_goals simp only at h1 k
    · simp only at l
      subst l
      rcases fa with ⟨e1, _, _⟩ | ⟨_, e2⟩ | ⟨e1, _⟩
      · omega
      · rcases fb with ⟨e1, _, _⟩ | ⟨_, e2'⟩ | ⟨e1, _⟩
        · omega
        · rw [e2, e2', h1]
        · omega
      · omega
    · simp only at l
      subst l
      rcases fa with ⟨e1, _, _⟩ | ⟨e1, _⟩ | ⟨_, e2⟩
      · omega
      · omega
      · rcases fb with ⟨e1, _, _⟩ | ⟨e1, _⟩ | ⟨_, e2'⟩
        · omega
        · omega
        · rw [e2, e2', h1]
    · simp only at k'
      rcases fa with ⟨e1, e2, e3⟩ | ⟨e1, _⟩ | ⟨e1, _⟩
      · rcases fb with ⟨e1', e2', e3'⟩ | ⟨e1', _⟩ | ⟨e1', _⟩
        · rw [e1, e2, e3, e1', e2', e3']
        · omega
        · omega
      · omega
      · omega
  · intro h
    rw [h]
    have := cmp_turn (b0, b1, b2) (b0, b1, b2)
    omega
end Go.Proofs.YticanhidahkhfaaGreatDoor
namespace Go.Proofs.YticanhidahkhfaaGreatDoor
open Go.RowKit
set_option linter.unusedVariables false
set_option linter.unusedSimpArgs false
set_option maxRecDepth 100000
inductive Pd where
  | mk (op col : Int) (vals : List Vl) (parts : List Pd) : Pd
def Pd.op : Pd → Int | .mk o _ _ _ => o
def Pd.col : Pd → Int | .mk _ c _ _ => c
def Pd.vals : Pd → List Vl | .mk _ _ v _ => v
def Pd.parts : Pd → List Pd | .mk _ _ _ l => l
def Pd.none_ : Pd := .mk 0 0 [] []
theorem Pd.eta (p : Pd) : p = .mk p.op p.col p.vals p.parts := by cases p; rfl
def trI (is : Prop) [Decidable is] : Int := if is then 2 else 0
def fmd (op : Int) (v n : Nat) : Prop := (1 ≤ op ∧ op ≤ 6 ∧ v = 1 ∧ n = 0) ∨ (op = 7 ∧ v ≤ 256 ∧ n = 0) ∨ (op = 8 ∧ v = 2 ∧ n = 0) ∨ (op = 9 ∧ v = 0 ∧ n = 0)
instance (op : Int) (v n : Nat) : Decidable (fmd op v n) := by unfold fmd; exact inferInstance
def prE (op : Int) (v : Vl) (vals : List Vl) : Int :=
  if op = 7 then trI (∃ u ∈ vals, cmpV v u = 0)
  else if op = 8 then trI (0 ≤ cmpV v (vals.getD 0 (0, 0, [])) ∧ cmpV v (vals.getD 1 (0, 0, [])) ≤ 0)
  else
    let c := cmpV v (vals.getD 0 (0, 0, []))
    if op = 1 then trI (c = 0) else if op = 2 then trI (c ≠ 0) else if op = 3 then trI (c < 0) else if op = 4 then trI (c ≤ 0) else if op = 5 then trI (0 < c) else trI (0 ≤ c)
def clE (op col : Int) (vals : List Vl) (n : Nat) (row : List Vl) : Int :=
  if col < 0 ∨ (row.length : Int) ≤ col then 1
  else
    let v := row.getD col.toNat (0, 0, [])
    if op = 9 then trI (v.1 = 0) else if v.1 = 0 ∨ ¬ fmd op vals.length n then 1 else prE op v vals
mutual
def evP (row : List Vl) : Pd → Int
  | .mk op col vals parts =>
    if op = 0 then 2
    else if 1 ≤ op ∧ op ≤ 9 then clE op col vals parts.length row
    else if op < 0 ∨ 12 < op ∨ parts.length = 0 then 1
    else
      let ts := evL row parts
      if op = 12 then 2 - ts.headD 0 else if op = 10 then ts.tail.foldl (fun t x => if x < t then x else t) (ts.headD 0) else ts.tail.foldl (fun t x => if t < x then x else t) (ts.headD 0)
def evL (row : List Vl) : List Pd → List Int
  | [] => []
  | p :: l => evP row p :: evL row l
end
theorem evL_map (row : List Vl) : ∀ l, evL row l = l.map (evP row)
  | [] => by simp [evL]
  | p :: l => by rw [evL, evL_map row l]; rfl
theorem evL_length (row : List Vl) (l : List Pd) : (evL row l).length = l.length := by rw [evL_map, List.length_map]
end Go.Proofs.YticanhidahkhfaaGreatDoor
namespace Go.Proofs.YticanhidahkhfaaGreatDoor
open Go.RowKit
set_option linter.unusedVariables false
set_option linter.unusedSimpArgs false
set_option maxRecDepth 100000
abbrev Zn := Int × Bool × Vl × Vl
abbrev Tr3 := Bool × Bool × Bool
def frmZ (op col : Int) (v n : Nat) : Prop := ((1 ≤ op ∧ op ≤ 9) ∨ col = 0) ∧
  (((op = 0 ∨ op = 9) ∧ v = 0 ∧ n = 0) ∨ (1 ≤ op ∧ op ≤ 6 ∧ v = 1 ∧ n = 0) ∨ (op = 7 ∧ v ≤ 256 ∧ n = 0) ∨ (op = 8 ∧ v = 2 ∧ n = 0) ∨ ((op = 10 ∨ op = 11) ∧ v = 0 ∧ 1 ≤ n ∧ n ≤ 256) ∨ (op = 12 ∧ v = 0 ∧ n = 1))
instance (op col : Int) (v n : Nat) : Decidable (frmZ op col v n) := by unfold frmZ; exact inferInstance
def oneZ (op : Int) (vals : List Vl) (z : Zn) : Bool × Bool :=
  let a := vals.getD 0 (0, 0, [])
  let b := vals.getD 1 (0, 0, [])
  let mn := z.2.2.1
  let mx := z.2.2.2
  let same := decide (cmpV mn a ≤ 0) && decide (0 ≤ cmpV mx a)
  let other := !decide (cmpV mn a = 0) || !decide (cmpV mx a = 0)
  if op = 1 then (same, other)
  else if op = 2 then (other, same)
  else if op = 3 then (decide (cmpV mn a < 0), decide (0 ≤ cmpV mx a))
  else if op = 4 then (decide (cmpV mn a ≤ 0), decide (0 < cmpV mx a))
  else if op = 5 then (decide (0 < cmpV mx a), decide (cmpV mn a ≤ 0))
  else if op = 6 then (decide (0 ≤ cmpV mx a), decide (cmpV mn a < 0))
  else if op = 7 then (vals.any fun v => decide (0 ≤ cmpV v mn) && decide (cmpV v mx ≤ 0), vals.all fun v => !(decide (cmpV v mn = 0) && decide (cmpV v mx = 0)))
  else ((decide (cmpV a b ≤ 0) && decide (cmpV a mx ≤ 0)) && decide (0 ≤ cmpV b mn), decide (cmpV mn a < 0) || decide (0 < cmpV mx b))
def at3 (t : Tr3) : Nat → Bool
  | 0 => t.1
  | 1 => t.2.1
  | _ => t.2.2
def put3 (t : Tr3) (is : Bool) (k : Nat) : Tr3 := (t.1 || (is && decide (k = 0)), t.2.1 || (is && decide (k = 1)), t.2.2 || (is && decide (k = 2)))
def of2 (op : Int) (a b : Nat) : Nat := if op = 10 then min a b else max a b
def jnB (op : Int) (o x : Tr3) (a : Nat) (t : Tr3) : Nat → Tr3
  | 0 => t
  | b + 1 => put3 (jnB op o x a t b) (at3 o a && at3 x b) (of2 op a b)
def jnA (op : Int) (o x : Tr3) : Nat → Tr3
  | 0 => (false, false, false)
  | a + 1 => jnB op o x a (jnA op o x a) 3
def jn3 (op : Int) (o x : Tr3) : Tr3 := jnA op o x 3
def zNone : Zn := (0, false, (0, 0, []), (0, 0, []))
mutual
def mayP (rows : Int) (zs : List Zn) : Pd → Tr3
  | .mk op col vals parts =>
    if rows < 1 then (false, false, false)
    else if ¬ frmZ op col vals.length parts.length ∨ (1 ≤ op ∧ op ≤ 9) ∧ (col < 0 ∨ (zs.length : Int) ≤ col) then (true, true, true)
    else if op = 0 then (false, false, true)
    else
      let z := zs.getD col.toNat zNone
      if op = 9 then (decide (z.1 < rows), false, decide (0 < z.1))
      else if 1 ≤ op ∧ op ≤ 9 then
        let tf := if z.2.1 then oneZ op vals z else (false, false)
        (tf.2, decide (0 < z.1), tf.1)
      else
        let ts := mayL rows zs parts
        let o := ts.headD (false, false, false)
        if op = 12 then (o.2.2, o.2.1, o.1) else ts.tail.foldl (jn3 op) o
def mayL (rows : Int) (zs : List Zn) : List Pd → List Tr3
  | [] => []
  | p :: l => mayP rows zs p :: mayL rows zs l
end
theorem mayL_map (rows : Int) (zs : List Zn) : ∀ l, mayL rows zs l = l.map (mayP rows zs)
  | [] => by simp [mayL]
  | p :: l => by rw [mayL, mayL_map rows zs l]; rfl
def szP (most : Int) : Nat → Pd → Int
  | 0, _ => most + 1
  | d + 1, p =>
    let n := p.vals.foldl (fun n v => if n ≤ most then n + 1 + (v.2.2.length : Int) else n) 1
    p.parts.foldl (fun n q => if n ≤ most then n + szP most d q else n) n
def sndZ (z : Zn) (rows kind : Int) : Bool :=
  if z.1 < 0 ∨ rows < z.1 ∨ z.2.1 ≠ decide (z.1 < rows) then false
  else if z.2.1 = false then decide (z.2.2.1 = (0, 0, []) ∧ z.2.2.2 = (0, 0, []))
  else decide ((kind = 1 ∨ kind = 2) ∧ z.2.2.1.1 = kind ∧ z.2.2.2.1 = kind ∧ rgt kind z.2.2.1 = true ∧ rgt kind z.2.2.2 = true ∧ z.2.2.1.2.2.length ≤ 65536 ∧ z.2.2.2.2.2.length ≤ 65536 ∧ cmpV z.2.2.1 z.2.2.2 ≤ 0)
end Go.Proofs.YticanhidahkhfaaGreatDoor
