import Derived.Test.YtpgdlmnhomnblaaGreatDoorJ8
import Derived.Test.YtpgdlmnhomnblaaGreatDoorJ9
import Derived.Test.YtpgdlmnhomnblaaGreatDoorJ19
import Derived.Test.YtpgdlmnhomnblaaGreatDoorJ4
import Derived.Test.YtpgdlmnhomnblaaGreatDoorJ6
import Derived.Test.YtpgdlmnhomnblaaGreatDoorJ7
import Derived.Test.YtpgdlmnhomnblaaGreatDoorJ13
namespace Go.Proofs.YtpgdlmnhomnblaaGreatDoor
open Go.RowKit
set_option linter.unusedVariables false
set_option linter.unusedSimpArgs false
set_option maxRecDepth 100000
theorem lyB_shorter (l : List Vl) (i j : Nat) : (lyB l i).length < (lyB l j).length ↔ (frm i l).length < (frm j l).length := by
  unfold lyB
  simp only [List.length_append, List.length_singleton]
  omega
def Bests (kd : Int) (l : List Vl) (k : Nat) (z f : Int) : Prop := z = bst kd l k ∧ (z = -1 ∧ f = 0 ∨ ∃ j : Nat, z = (j : Int) ∧ j < 6 ∧ f = ((frm j l).length : Int))
theorem Bests.skip {kd : Int} {l : List Vl} {k : Nat} {z f : Int} (h : Bests kd l k z f) (hw : ofW (k : Int) kd = false) : Bests kd l (k + 1) z f := by
  refine ⟨?_, h.2⟩
  rw [bst, if_neg (by rw [hw]; simp)]
  exact h.1
theorem Bests.first {kd : Int} {l : List Vl} {k : Nat} {f : Int} (h : Bests kd l k (-1) f) (hw : ofW (k : Int) kd = true) (hk : k < 6) : Bests kd l (k + 1) (k : Int) ((frm k l).length : Int) := by
  refine ⟨?_, .inr ⟨k, rfl, hk, rfl⟩⟩
  rw [bst, if_pos ⟨hw, .inl (by rw [← h.1]; omega)⟩]
theorem Bests.more {kd : Int} {l : List Vl} {k j : Nat} {f : Int} (h : Bests kd l k (j : Int) f) (hw : ofW (k : Int) kd = true) (hk : k < 6) (hl : ((frm k l).length : Int) < f) : Bests kd l (k + 1) (k : Int) ((frm k l).length : Int) := by
  refine ⟨?_, .inr ⟨k, rfl, hk, rfl⟩⟩
  have key : (lyB l k).length < (lyB l (bst kd l k).toNat).length := by
    rw [← h.1, Int.toNat_natCast, lyB_shorter]
    rcases h.2 with ⟨e, _⟩ | ⟨i, e, _, e2⟩
    · exfalso; omega
    · have : i = j := by omega
      subst this
      rw [e2] at hl
      omega
  rw [bst, if_pos ⟨hw, .inr key⟩]
theorem Bests.same {kd : Int} {l : List Vl} {k j : Nat} {f : Int} (h : Bests kd l k (j : Int) f) (hw : ofW (k : Int) kd = true) (hl : ¬ ((frm k l).length : Int) < f) : Bests kd l (k + 1) (j : Int) f := by
  refine ⟨?_, h.2⟩
  rw [bst, if_neg]
  · exact h.1
  · rintro ⟨_, e⟩
    rw [← h.1, Int.toNat_natCast, lyB_shorter] at e
    rcases h.2 with ⟨e1, _⟩ | ⟨i, e1, _, e2⟩
    · omega
    · have : i = j := by omega
      subst this
      omega
theorem best_no {kd : Int} {l : List Vl} (h : cpE kd (-1) l ≠ 0) : bestW kd l = -1 := by
  unfold bestW
  rw [if_pos]
  by_cases hk : kd ≠ 1 ∧ kd ≠ 2
  · exact .inl hk
  · right
    unfold cpE at h
    have hn : ¬ ((kd ≠ 1 ∧ kd ≠ 2) ∨ ((-1 : Int) ≠ -1 ∧ ofW (-1) kd = false)) := by
      rintro (e | ⟨e, _⟩)
      · exact hk e
      · exact e rfl
    rwa [if_neg hn] at h
theorem best_yes {kd : Int} {l : List Vl} (h : cpE kd (-1) l = 0) : bestW kd l = bst kd l 6 ∧ (kd = 1 ∨ kd = 2) ∧ ∀ v ∈ l, rgt kd v = true := by
  obtain ⟨h1, h2, _, _⟩ := cpE_ok h
  refine ⟨?_, h1, (ckE_ok h2).2.2⟩
  unfold bestW
  rw [if_neg]
  rintro (e | e)
  · omega
  · exact e h2
set_option maxHeartbeats 4000000 in
theorem best_any (A : Option Addr) (n c : Nat) (kd : Int) (l : List Vl) (w : World) (hr : Reads w w.heap.size 3 A n (vs l)) (hn : n ≤ 65536) (hi : ∀ v ∈ l, In64 v.1 ∧ In64 v.2.1) (hs : ∀ v ∈ l, v.2.2.length ≤ 65536) (hk : In64 kd) :
    Calls Tryz.prog 42 #[.slice A n c, .int .i64 kd] w fun e w' => e = .returned (.int .i64 (bestW kd l)) ∧ Below w.heap.size w w' := by
  have e1 : l.length = n := by have := hr.1; rw [vs_length] at this; omega
  have HR := Lib.hid (refusal_any A n c kd (-1) l w hr hn hs)
  obtain ⟨R, hR⟩ : ∃ R, cpE kd (-1) l = R := ⟨_, rfl⟩
  rw [hR] at HR
  by_cases h0 : R = 0
  case neg =>
    rw [best_no (by rw [hR]; exact h0)]
    have q : (R != 0) = true := by simp [h0]
    clear hR h0
    go_enter Tryz.func42, Tryz.ntmps42
    go_wp2_with fail
    refine HR.out.mono ?_
    rintro e w1 ⟨rfl, hb1⟩
    go_wp2_with fail
    go_ret
    exact ⟨rfl, hb1⟩
  case pos =>
    subst h0
    obtain ⟨hbw, hkd, hall⟩ := best_yes hR
    rw [hbw]
    have HAP := Lib.hid fun (W : World) (h : Below w.heap.size w W) => apart_any A n c l W (hr.next h) hn
    have hol := oth_length_le l
    clear hR hbw
    go_enter Tryz.func42, Tryz.ntmps42
    go_wp2_with fail
    refine HR.out.mono ?_
    rintro e w1 ⟨rfl, hb1⟩
    go_wp2_with fail
    refine (HAP.out w1 hb1).mono ?_
    rintro e w2 ⟨g, h, vo, rfl, hS, hO, hb2⟩
    obtain ⟨Ao, co, rfl, _, _, rO⟩ := own_slice hO
    have hb02 := hb1.trans (hb2.mono hb1.size)
    obtain ⟨m, hm0⟩ : ∃ m, (oth l).length = m := ⟨_, rfl⟩
    rw [hm0] at hol rO ⊢
    have hm : m ≤ 65536 := by omega
    clear hS hO hb1 hb2
    go_wp2_with fail
    refine (forms_any w2).mono ?_
    rintro e w3 ⟨a, b, rfl, hT, hb3⟩
    have hb03 := hb02.trans (hb3.mono hb02.size)
    have rO3 := rO.next hb3
    clear rO hb02 hb3
    go_wp2_with fail
    go_loopw [5, 6, 24] (fun s5 s6 s24 wr => ∃ (k : Nat), k ≤ 6 ∧ s24 = .int .i64 (k : Int) ∧ ∃ z f : Int, s5 = .int .i64 z ∧ s6 = .int .i64 f ∧ Bests kd l k z f ∧ Below w3.heap.size w3 wr ∧ Below w.heap.size w wr) (fun _ _ i _ => 6 - (intOf i).toNat)
    case atStart => exact ⟨0, by omega, rfl, -1, 0, rfl, rfl, ⟨rfl, .inl ⟨rfl, rfl⟩⟩, Below.refl _ _, hb03⟩
    case round =>
      clear hb03
      obtain ⟨k, hk6, rfl, z, f, rfl, rfl, hB, hzr, hb⟩ := hrel
      by_cases hlt : k < 6
      · have hl : l.length ≤ 65536 := by omega
        have hLkb := frm_len (way := k) (l := l) hl (fun v hv => (hi v hv).2) hs
        rcases hkd with rfl | rfl
        · by_cases h5 : k = 5
          · subst h5
            obtain ⟨p1, p2, hv, _, _⟩ := hT.put 5 hlt
            obtain ⟨q1, q2, hqb, _, _⟩ := hT.get 5 hlt
            have hix := fun W => run_index_form a b hlt W
            rw [hv, hqb] at hix
            simp only [if_true] at hix
            rw [show ((5 : Nat) : Int) = 5 from rfl] at hix
            have hof : ofW ((5 : Nat) : Int) 1 = false := by unfold ofW; simp; try omega
            have HS := Lib.hid (hB.skip hof)
            clear hB hof hall hi hs
            go_wp2_with fail
            go_round
            case rel => exact ⟨5 + 1, by omega, by go_num, _, _, rfl, rfl, HS.out, hzr.alloc hzr.size _, hb.alloc hb.size _⟩
            case measure => simp [intOf]; try omega
          · obtain ⟨g1, g2, hv, hput⟩ := tab_putN hT (show k < 5 by omega)
            obtain ⟨q1, q2, hqb, _, _⟩ := hT.get k hlt
            have hix := fun W => run_index_form a b hlt W
            rw [hv, hqb, if_neg h5] at hix
            have hof : ofW ((k : Nat) : Int) 1 = true := by unfold ofW; simp; try omega
            have hcall := fun W (h : Below w3.heap.size w3 W) => hput Ao m co (oth l) W h (rO3.next h) hm (oth_kind hall) (fun v hv => (hi v (oth_mem hv).1).2) (fun v hv => hs v (oth_mem hv).1)
            simp only [frm_oth] at hcall
            have HC := Lib.hid hcall
            obtain ⟨Lk, hLk⟩ : ∃ Lk, (frm k l).length = Lk := ⟨_, rfl⟩
            rw [hLk] at hLkb
            clear hput hcall hall hi hs hv hqb
            rcases hB.2 with ⟨rfl, rfl⟩ | ⟨j, rfl, hj, hfj⟩
            · have hn := hB.first hof (by omega)
              rw [hLk] at hn
              have HS := Lib.hid hn
              have HL := Lib.hid hLk
              clear hB hof hn hLk
              go_wp2_with fail
              refine (HC.out _ (hzr.alloc hzr.size _)).mono ?_
              rintro e w5 ⟨v5, rfl, hown5, hb5⟩
              obtain ⟨A5, c5, rfl, _, _, _⟩ := own_slice hown5
              rw [HL.out]
              have hz5 : Below wr.heap.size wr w5 := ((Below.refl _ _).alloc (Nat.le_refl _) _).trans (hb5.mono (by simp))
              clear hown5 hb5
              go_wp2_with fail
              go_round
              case rel => exact ⟨k + 1, by omega, by go_num, _, _, rfl, rfl, HS.out, hzr.trans (hz5.mono hzr.size), hb.trans (hz5.mono hb.size)⟩
              case measure => simp [intOf]; try omega
            · obtain ⟨fj, hfj'⟩ : ∃ fj, (frm j l).length = fj := ⟨_, rfl⟩
              rw [hfj'] at hfj
              subst hfj
              have q : ((j : Int) == -1) = false := by simp
              have HL := Lib.hid hLk
              by_cases hlq : Lk < fj
              · have hn := hB.more hof (by omega) (by have := hLk; omega)
                rw [hLk] at hn
                have HS := Lib.hid hn
                clear hB hof hn hLk hfj'
                go_wp2_with fail
                refine (HC.out _ (hzr.alloc hzr.size _)).mono ?_
                rintro e w5 ⟨v5, rfl, hown5, hb5⟩
                obtain ⟨A5, c5, rfl, _, _, _⟩ := own_slice hown5
                rw [HL.out]
                have hz5 : Below wr.heap.size wr w5 := ((Below.refl _ _).alloc (Nat.le_refl _) _).trans (hb5.mono (by simp))
                clear hown5 hb5
                go_wp2_with fail
                go_round
                case rel => exact ⟨k + 1, by omega, by go_num, _, _, rfl, rfl, HS.out, hzr.trans (hz5.mono hzr.size), hb.trans (hz5.mono hb.size)⟩
                case measure => simp [intOf]; try omega
              · have hn := hB.same hof (by have := hLk; omega)
                have HS := Lib.hid hn
                clear hB hof hn hLk hfj'
                go_wp2_with fail
                refine (HC.out _ (hzr.alloc hzr.size _)).mono ?_
                rintro e w5 ⟨v5, rfl, hown5, hb5⟩
                obtain ⟨A5, c5, rfl, _, _, _⟩ := own_slice hown5
                rw [HL.out]
                have hz5 : Below wr.heap.size wr w5 := ((Below.refl _ _).alloc (Nat.le_refl _) _).trans (hb5.mono (by simp))
                clear hown5 hb5
                go_wp2_with fail
                go_round
                case rel => exact ⟨k + 1, by omega, by go_num, _, _, rfl, rfl, HS.out, hzr.trans (hz5.mono hzr.size), hb.trans (hz5.mono hb.size)⟩
                case measure => simp [intOf]; try omega
        · by_cases h5 : k = 5
          · subst h5
            obtain ⟨g1, g2, hv, hput⟩ := tab_putT hT
            obtain ⟨q1, q2, hqb, _, _⟩ := hT.get 5 hlt
            have hix := fun W => run_index_form a b hlt W
            rw [hv, hqb] at hix
            simp only [if_true] at hix
            rw [show ((5 : Nat) : Int) = 5 from rfl] at hix
            have hof : ofW ((5 : Nat) : Int) 2 = true := by unfold ofW; simp; try omega
            have hcall := fun W (h : Below w3.heap.size w3 W) => hput Ao m co (oth l) W h (rO3.next h) hm (oth_kind hall) (fun v hv => (hi v (oth_mem hv).1).2) (fun v hv => hs v (oth_mem hv).1)
            simp only [frm_oth] at hcall
            have HC := Lib.hid hcall
            obtain ⟨Lk, hLk⟩ : ∃ Lk, (frm 5 l).length = Lk := ⟨_, rfl⟩
            rw [hLk] at hLkb
            clear hput hcall hall hi hs hv hqb
            rcases hB.2 with ⟨rfl, rfl⟩ | ⟨j, rfl, hj, hfj⟩
            · have hn := hB.first hof (by omega)
              rw [hLk] at hn
              have HS := Lib.hid hn
              have HL := Lib.hid hLk
              clear hB hof hn hLk
              go_wp2_with fail
              refine (HC.out _ (hzr.alloc hzr.size _)).mono ?_
              rintro e w5 ⟨v5, rfl, hown5, hb5⟩
              obtain ⟨A5, c5, rfl, _, _, _⟩ := own_slice hown5
              rw [HL.out]
              have hz5 : Below wr.heap.size wr w5 := ((Below.refl _ _).alloc (Nat.le_refl _) _).trans (hb5.mono (by simp))
              clear hown5 hb5
              go_wp2_with fail
              go_round
              case rel => exact ⟨5 + 1, by omega, by go_num, _, _, rfl, rfl, HS.out, hzr.trans (hz5.mono hzr.size), hb.trans (hz5.mono hb.size)⟩
              case measure => simp [intOf]; try omega
            · obtain ⟨fj, hfj'⟩ : ∃ fj, (frm j l).length = fj := ⟨_, rfl⟩
              rw [hfj'] at hfj
              subst hfj
              have q : ((j : Int) == -1) = false := by simp
              have HL := Lib.hid hLk
              by_cases hlq : Lk < fj
              · have hn := hB.more hof (by omega) (by have := hLk; omega)
                rw [hLk] at hn
                have HS := Lib.hid hn
                clear hB hof hn hLk hfj'
                go_wp2_with fail
                refine (HC.out _ (hzr.alloc hzr.size _)).mono ?_
                rintro e w5 ⟨v5, rfl, hown5, hb5⟩
                obtain ⟨A5, c5, rfl, _, _, _⟩ := own_slice hown5
                rw [HL.out]
                have hz5 : Below wr.heap.size wr w5 := ((Below.refl _ _).alloc (Nat.le_refl _) _).trans (hb5.mono (by simp))
                clear hown5 hb5
                go_wp2_with fail
                go_round
                case rel => exact ⟨5 + 1, by omega, by go_num, _, _, rfl, rfl, HS.out, hzr.trans (hz5.mono hzr.size), hb.trans (hz5.mono hb.size)⟩
                case measure => simp [intOf]; try omega
              · have hn := hB.same hof (by have := hLk; omega)
                have HS := Lib.hid hn
                clear hB hof hn hLk hfj'
                go_wp2_with fail
                refine (HC.out _ (hzr.alloc hzr.size _)).mono ?_
                rintro e w5 ⟨v5, rfl, hown5, hb5⟩
                obtain ⟨A5, c5, rfl, _, _, _⟩ := own_slice hown5
                rw [HL.out]
                have hz5 : Below wr.heap.size wr w5 := ((Below.refl _ _).alloc (Nat.le_refl _) _).trans (hb5.mono (by simp))
                clear hown5 hb5
                go_wp2_with fail
                go_round
                case rel => exact ⟨5 + 1, by omega, by go_num, _, _, rfl, rfl, HS.out, hzr.trans (hz5.mono hzr.size), hb.trans (hz5.mono hb.size)⟩
                case measure => simp [intOf]; try omega
          · obtain ⟨p1, p2, hv, _, _⟩ := hT.put k hlt
            obtain ⟨q1, q2, hqb, _, _⟩ := hT.get k hlt
            have hix := fun W => run_index_form a b hlt W
            rw [hv, hqb, if_neg h5] at hix
            have hof : ofW ((k : Nat) : Int) 2 = false := by unfold ofW; simp; try omega
            have HS := Lib.hid (hB.skip hof)
            clear hB hof hall hi hs
            go_wp2_with fail
            go_round
            case rel => exact ⟨k + 1, by omega, by go_num, _, _, rfl, rfl, HS.out, hzr.alloc hzr.size _, hb.alloc hb.size _⟩
            case measure => simp [intOf]; try omega
      · obtain rfl : k = 6 := by omega
        have hz := hB.1
        subst hz
        clear hB hall hi hs
        go_wp2_with fail
        go_ret
        exact ⟨rfl, hb⟩
end Go.Proofs.YtpgdlmnhomnblaaGreatDoor
namespace Go.Proofs.YtpgdlmnhomnblaaGreatDoor
open Go.RowKit
set_option linter.unusedVariables false
set_option linter.unusedSimpArgs false
set_option maxRecDepth 100000
def CkPut (w : World) (kd way : Int) (l : List Vl) (e : Ending) (w' : World) : Prop :=
  ∃ v, e = .returned (.tuple #[v, .int .i64 (cpE kd way l)]) ∧ w'.ownsRow w.heap.size 5 1 v (cpB kd way l).length (bs (cpB kd way l)) ∧ Below w.heap.size w w'
theorem CkPut.no {w w' : World} {kd way : Int} {l : List Vl} {f : Int} (h : cpE kd way l = f) (hf : f ≠ 0) (hb : Below w.heap.size w w') : CkPut w kd way l (.returned (.tuple #[.slice none 0 0, .int .i64 f])) w' := by
  refine ⟨.slice none 0 0, by rw [h], ?_, hb⟩
  have : cpB kd way l = [] := by unfold cpB; rw [if_neg (by rw [h]; exact hf)]
  rw [this]
  exact own_nil _ _ _ _
theorem CkPut.yes {w w' : World} {kd way : Int} {l : List Vl} {wn : Nat} {v : Value} (h : cpE kd way l = 0) (hw : cpW kd way l = wn) (hown : w'.ownsRow w.heap.size 5 1 v (lyB l wn).length (bs (lyB l wn))) (hb : Below w.heap.size w w') : CkPut w kd way l (.returned (.tuple #[v, .int .i64 0])) w' := by
  refine ⟨v, by rw [h], ?_, hb⟩
  have : cpB kd way l = lyB l wn := by unfold cpB; rw [if_pos h, hw]
  rw [this]
  exact hown
end Go.Proofs.YtpgdlmnhomnblaaGreatDoor
namespace Go.Proofs.YtpgdlmnhomnblaaGreatDoor
open Go.RowKit
set_option linter.unusedVariables false
set_option linter.unusedSimpArgs false
set_option maxRecDepth 100000
theorem run_field_put (x p q : Value) (W : World) : (Instr.field 95 (.agg #[x, p, q]) 1).run Tryz.prog W = .ok p W := by
  simp [Instr.field, run_underlying Tryz.underlying95, run_underlying Tryz.underlying92, part, isAgg, asAgg, Result.andThen, Sem.run_bind, Sem.run_pure]
end Go.Proofs.YtpgdlmnhomnblaaGreatDoor
namespace Go.Proofs.YtpgdlmnhomnblaaGreatDoor
open Go.RowKit
set_option linter.unusedVariables false
set_option linter.unusedSimpArgs false
set_option maxRecDepth 100000
theorem bestW_nat {kd : Int} {l : List Vl} (hk : kd = 1 ∨ kd = 2) (h : ckE kd l = 0) : bestW kd l = ((bestW kd l).toNat : Int) := by
  have := ofW_range (bestW_ok hk h).1
  omega
set_option maxHeartbeats 4000000 in
theorem put_any (A : Option Addr) (n c : Nat) (kd way : Int) (l : List Vl) (w : World) (hr : Reads w w.heap.size 3 A n (vs l)) (hn : n ≤ 65536) (hi : ∀ v ∈ l, In64 v.1 ∧ In64 v.2.1) (hs : ∀ v ∈ l, v.2.2.length ≤ 65536) (hk : In64 kd) (hw : In64 way) :
    Calls Tryz.prog 20 #[.slice A n c, .int .i64 kd, .int .i64 way] w (CkPut w kd way l) := by
  have e1 : l.length = n := by have := hr.1; rw [vs_length] at this; omega
  have HR := Lib.hid (refusal_any A n c kd way l w hr hn hs)
  obtain ⟨R, hR⟩ : ∃ R, cpE kd way l = R := ⟨_, rfl⟩
  rw [hR] at HR
  by_cases h0 : R = 0
  case neg =>
    have q : (R != 0) = true := by simp [h0]
    have HN := Lib.hid fun (w' : World) (h : Below w.heap.size w w') => CkPut.no hR h0 h
    clear hR h0
    go_enter Tryz.func20, Tryz.ntmps20
    go_wp2_with fail
    refine HR.out.mono ?_
    rintro e w1 ⟨rfl, hb1⟩
    go_wp2_with fail
    go_ret2
    exact HN.out _ hb1
  case pos =>
    subst h0
    obtain ⟨hkd, hck, hof, _⟩ := cpE_ok hR
    obtain ⟨wn, hwn⟩ : ∃ wn, cpW kd way l = wn := ⟨_, rfl⟩
    rw [hwn] at hof
    have hall := (ckE_ok hck).2.2
    have HY := Lib.hid fun (v : Value) (w' : World) (ho : w'.ownsRow w.heap.size 5 1 v (lyB l wn).length (bs (lyB l wn))) (h : Below w.heap.size w w') => CkPut.yes hR hwn ho h
    have HAP := Lib.hid fun (W : World) (h : Below w.heap.size w W) => apart_any A n c l W (hr.next h) hn
    have hol := oth_length_le l
    have hfp := run_field_put
    have hl : l.length ≤ 65536 := by omega
    have HFL := Lib.hid (frm_len (way := wn) (l := l) hl (fun v hv => (hi v hv).2) hs)
    have HE := Lib.hid e1
    have hw5 : wn ≤ 5 := by have := ofW_range hof; omega
    have hcv : IntKind.u8.wrap (wn : Int) = (wn : Int) := by
      have : wn = 0 ∨ wn = 1 ∨ wn = 2 ∨ wn = 3 ∨ wn = 4 ∨ wn = 5 := by omega
      rcases this with rfl | rfl | rfl | rfl | rfl | rfl <;> rfl
    by_cases h1 : way = -1
    case' pos =>
      have hbw := bestW_nat hkd hck
      have hbn : (bestW kd l).toNat = wn := by rw [← hwn]; unfold cpW; rw [if_pos h1]
      rw [hbn] at hbw
      have HB := Lib.hid fun (W : World) (h : Below w.heap.size w W) => best_any A n c kd l W (hr.next h) hn hi hs hk
      rw [hbw] at HB
      subst h1
      clear hR hck hwn hbw hbn e1
      go_enter Tryz.func20, Tryz.ntmps20
      go_wp2_with fail
      refine HR.out.mono ?_
      rintro e w0 ⟨rfl, hb0⟩
      go_wp2_with fail
      refine (HB.out w0 hb0).mono ?_
      rintro e w1 ⟨rfl, hb1'⟩
      have hb1 := hb0.trans (hb1'.mono hb0.size)
      clear hb0 hb1' HB HR
      go_wp2_with fail
    case' neg =>
      have hwn2 : way = (wn : Int) := by
        have := ofW_range hof
        rw [← hwn]; unfold cpW; rw [if_neg h1]
        have h2 : way.toNat = wn := by rw [← hwn]; unfold cpW; rw [if_neg h1]
        unfold cpE at hR
        by_cases h3 : ofW way kd = true
        · have := ofW_range h3; omega
        · rw [if_pos (.inr ⟨h1, by simpa using h3⟩)] at hR
          cases hR
      subst hwn2
      have q : ((wn : Int) == -1) = false := by simp
      clear hR hck hwn h1 e1
      go_enter Tryz.func20, Tryz.ntmps20
      go_wp2_with fail
      refine HR.out.mono ?_
      rintro e w1 ⟨rfl, hb1⟩
      clear HR
      go_wp2_with fail
    all_goals
      refine (HAP.out w1 hb1).mono ?_
      rintro e w2 ⟨g, h, vo, rfl, hS, hO, hb2⟩
      obtain ⟨Ao, co, rfl, _, _, rO⟩ := own_slice hO
      have hb02 := hb1.trans (hb2.mono hb1.size)
      obtain ⟨m, hm0⟩ : ∃ m, (oth l).length = m := ⟨_, rfl⟩
      rw [hm0] at hol rO ⊢
      have hm : m ≤ 65536 := by omega
      clear hO hb1 hb2 HAP
      go_wp2_with fail
      refine (forms_any w2).mono ?_
      rintro e w3 ⟨a, b, rfl, hT, hb3⟩
      have hb03 := hb02.trans (hb3.mono hb02.size)
      have rO3 := rO.next hb3
      have hS3 := hS.below hb3 (Nat.le_refl _)
      have hlt : wn < 6 := by omega
      clear rO hb02 hb3 hS
      rcases hkd with rfl | rfl
      · have h5 : ¬ wn = 5 := by have := ofW_range hof; omega
        obtain ⟨g1, g2, hv, hput⟩ := tab_putN hT (show wn < 5 by omega)
        obtain ⟨q1, q2, hqb, _, _⟩ := hT.get wn hlt
        have hix := fun W => run_index_form a b hlt W
        rw [hv, hqb, if_neg h5] at hix
        have hcall := fun W (h : Below w3.heap.size w3 W) => hput Ao m co (oth l) W h (rO3.next h) hm (oth_kind hall) (fun v hv => (hi v (oth_mem hv).1).2) (fun v hv => hs v (oth_mem hv).1)
        simp only [frm_oth] at hcall
        have HC := Lib.hid hcall
        have hbg := begB_head l
        have hly : begB (setB (non l) l.length) l.length ++ ([wn] ++ frm wn l) = lyB l wn := by rw [hbg]; unfold lyB; simp
        rw [HE.out] at hly
        obtain ⟨F, hF⟩ : ∃ F, frm wn l = F := ⟨_, rfl⟩
        rw [hF] at hly HC HFL
        obtain ⟨S, hSS⟩ : ∃ S, setB (non l) n = S := ⟨_, rfl⟩
        rw [hSS] at hly hS3
        obtain ⟨H, hH⟩ : ∃ H, begB S n = H := ⟨_, rfl⟩
        rw [hH] at hly
        have hHl : H.length ≤ 8193 := by rw [← hH]; unfold begB; have := hS3.size.2; split <;> simp; omega
        have hfl : F.length ≤ 4295753740 := HFL.out
        have HL := Lib.hid (show [H, [wn], F].flatten = lyB l wn by rw [← hly]; simp)
        have HP := Lib.hid fun (W : World) (h : Below w3.heap.size w3 W) => putNothing_any (hS3.below h (Nat.le_refl _))
        rw [hH] at HP
        clear hput hcall hall hi hs hv hqb hbg hly hF hSS hH HFL hof
        go_wp2_with fail
        refine (HC.out _ (Below.refl _ _)).mono ?_
        rintro e w5 ⟨v5, rfl, hown5, hb5⟩
        obtain ⟨A5, c5, rfl, _, _, r5⟩ := own_slice hown5
        have hb05 := hb03.trans (hb5.mono hb03.size)
        clear hown5
        go_wp2_with fail
        refine (HP.out _ hb5).mono ?_
        rintro e w6 ⟨v6, rfl, hown6, hb6⟩
        obtain ⟨A6, c6, rfl, _, _, r6⟩ := own_slice hown6
        have hb06 := hb05.trans (hb6.mono hb05.size)
        have r56 := r5.next hb6
        clear hown6 hb6 r5
        have hba : Below w6.heap.size w6 (w6.alloc (.cells #[.int .u8 (wn : Nat)] 5)) := (Below.refl _ _).alloc (Nat.le_refl _) _
        have i1 : IsB (w6.alloc (.cells #[.int .u8 (wn : Nat)] 5)) (.slice A6 H.length c6) H := ⟨A6, c6, rfl, r6.next hba⟩
        have i2 : IsB (w6.alloc (.cells #[.int .u8 (wn : Nat)] 5)) (.slice (some ⟨w6.heap.size, 0, none⟩) 1 1) [wn] := ⟨_, 1, rfl, reads_blk (Blk.new w6 _ _) _ 1 _ (by simp) rfl rfl⟩
        have i3 : IsB (w6.alloc (.cells #[.int .u8 (wn : Nat)] 5)) (.slice A5 F.length c5) F := ⟨A5, c5, rfl, r56.next hba⟩
        have hb07 := hb06.trans (hba.mono hb06.size)
        have h3 := three_parts _ 66 _ _ _ H [wn] F i1 i2 i3
        rw [show (w6.alloc (.cells #[.int .u8 (wn : Nat)] 5)).heap.size = w6.heap.size + 1 by simp] at h3
        clear r6 r56 i1 i2 i3
        go_wp2_with fail
        refine (concat_any (some ⟨w6.heap.size + 1, 0, none⟩) 3 3 [H, [wn], F] _ h3 rfl (by omega) (by simp; omega)).mono ?_
        rintro e w8 ⟨v, rfl, hown, hb8⟩
        have hb7 := hb07.alloc hb07.size (.cells #[.slice A6 H.length c6, .slice (some ⟨w6.heap.size, 0, none⟩) 1 1, .slice A5 F.length c5] 66)
        rw [HL.out] at hown
        go_wp2_with fail
        go_ret2
        exact HY.out v _ (own_base hown hb7.size) (hb7.trans (hb8.mono hb7.size))
      · obtain rfl : wn = 5 := by have := ofW_range hof; omega
        obtain ⟨g1, g2, hv, hput⟩ := tab_putT hT
        obtain ⟨q1, q2, hqb, _, _⟩ := hT.get 5 hlt
        have hix := fun W => run_index_form a b hlt W
        rw [hv, hqb] at hix
        simp only [if_true] at hix
        rw [show ((5 : Nat) : Int) = 5 from rfl] at hix
        have hcall := fun W (h : Below w3.heap.size w3 W) => hput Ao m co (oth l) W h (rO3.next h) hm (oth_kind hall) (fun v hv => (hi v (oth_mem hv).1).2) (fun v hv => hs v (oth_mem hv).1)
        simp only [frm_oth] at hcall
        have HC := Lib.hid hcall
        have hbg := begB_head l
        have hly : begB (setB (non l) l.length) l.length ++ ([5] ++ frm 5 l) = lyB l 5 := by rw [hbg]; unfold lyB; simp
        rw [HE.out] at hly
        obtain ⟨F, hF⟩ : ∃ F, frm 5 l = F := ⟨_, rfl⟩
        rw [hF] at hly HC HFL
        obtain ⟨S, hSS⟩ : ∃ S, setB (non l) n = S := ⟨_, rfl⟩
        rw [hSS] at hly hS3
        obtain ⟨H, hH⟩ : ∃ H, begB S n = H := ⟨_, rfl⟩
        rw [hH] at hly
        have hHl : H.length ≤ 8193 := by rw [← hH]; unfold begB; have := hS3.size.2; split <;> simp; omega
        have hfl : F.length ≤ 4295753740 := HFL.out
        have HL := Lib.hid (show [H, [5], F].flatten = lyB l 5 by rw [← hly]; simp)
        have HP := Lib.hid fun (W : World) (h : Below w3.heap.size w3 W) => putNothing_any (hS3.below h (Nat.le_refl _))
        rw [hH] at HP
        clear hput hcall hall hi hs hv hqb hbg hly hF hSS hH HFL hof
        go_wp2_with fail
        refine (HC.out _ (Below.refl _ _)).mono ?_
        rintro e w5 ⟨v5, rfl, hown5, hb5⟩
        obtain ⟨A5, c5, rfl, _, _, r5⟩ := own_slice hown5
        have hb05 := hb03.trans (hb5.mono hb03.size)
        clear hown5
        go_wp2_with fail
        refine (HP.out _ hb5).mono ?_
        rintro e w6 ⟨v6, rfl, hown6, hb6⟩
        obtain ⟨A6, c6, rfl, _, _, r6⟩ := own_slice hown6
        have hb06 := hb05.trans (hb6.mono hb05.size)
        have r56 := r5.next hb6
        clear hown6 hb6 r5
        have hba : Below w6.heap.size w6 (w6.alloc (.cells #[.int .u8 (5 : Nat)] 5)) := (Below.refl _ _).alloc (Nat.le_refl _) _
        have i1 : IsB (w6.alloc (.cells #[.int .u8 (5 : Nat)] 5)) (.slice A6 H.length c6) H := ⟨A6, c6, rfl, r6.next hba⟩
        have i2 : IsB (w6.alloc (.cells #[.int .u8 (5 : Nat)] 5)) (.slice (some ⟨w6.heap.size, 0, none⟩) 1 1) [5] := ⟨_, 1, rfl, reads_blk (Blk.new w6 _ _) _ 1 _ (by simp) rfl rfl⟩
        have i3 : IsB (w6.alloc (.cells #[.int .u8 (5 : Nat)] 5)) (.slice A5 F.length c5) F := ⟨A5, c5, rfl, r56.next hba⟩
        have hb07 := hb06.trans (hba.mono hb06.size)
        have h3 := three_parts _ 66 _ _ _ H [5] F i1 i2 i3
        rw [show (w6.alloc (.cells #[.int .u8 (5 : Nat)] 5)).heap.size = w6.heap.size + 1 by simp] at h3
        clear r6 r56 i1 i2 i3
        go_wp2_with fail
        refine (concat_any (some ⟨w6.heap.size + 1, 0, none⟩) 3 3 [H, [5], F] _ h3 rfl (by omega) (by simp; omega)).mono ?_
        rintro e w8 ⟨v, rfl, hown, hb8⟩
        have hb7 := hb07.alloc hb07.size (.cells #[.slice A6 H.length c6, .slice (some ⟨w6.heap.size, 0, none⟩) 1 1, .slice A5 F.length c5] 66)
        rw [HL.out] at hown
        go_wp2_with fail
        go_ret2
        exact HY.out v _ (own_base hown hb7.size) (hb7.trans (hb8.mono hb7.size))
end Go.Proofs.YtpgdlmnhomnblaaGreatDoor
