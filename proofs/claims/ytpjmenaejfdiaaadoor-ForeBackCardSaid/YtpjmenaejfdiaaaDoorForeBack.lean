/- The walk of the statement ForeBack: what is put is read as it was; what is read is put as it was. -/
import Derived.Test.YtpjmenaejfdiaaaDoorJ18
import Derived.Test.YtpjmenaejfdiaaaDoorJ32
import Derived.Test.YtpjmenaejfdiaaaDoorFoPutGet
namespace Go.Proofs.YtpjmenaejfdiaaaDoor
open Go.RowKit
set_option linter.unusedVariables false
set_option linter.unusedSimpArgs false
set_option maxRecDepth 100000

theorem back_else (A1 A2 : Option Addr) (n1 c1 n2 c2 : Nat) (k : Int) (w : World) (h : 200 < n1 ∨ 500 < n2 ∨ 1000 < k ∧ k ≤ 65536) :
    Calls Tryd.prog 4 #[.slice A1 n1 c1, .slice A2 n2 c2, .int .i64 k] w fun e w' => e = .returned (.bool true) ∧ Below w.heap.size w w' := by
  by_cases h1 : 200 < n1
  case' pos => clear h
  case' neg =>
    have h := h.resolve_left h1
    by_cases h2 : 500 < n2
    case' pos => clear h
    case' neg =>
      obtain ⟨h3, h4⟩ := h.resolve_left h2
      clear h
  all_goals
    go_enter Tryd.func4, Tryd.ntmps4
    go_wp2_with fail
    refine (awake_any w).mono ?_
    rintro e w1 ⟨rfl, hb⟩
    go_wp2_with fail
    go_ret
    exact ⟨rfl, hb⟩
set_option maxHeartbeats 2000000 in
theorem back_main (A1 A2 : Option Addr) (c1 n2 c2 : Nat) (k : Int) (l : List Int) (lb : List Nat) (w : World) (h1 : Reads w w.heap.size 1 A1 l.length (zs l)) (h2 : Reads w w.heap.size 1 A2 n2 (bs lb)) (hl : ∀ z ∈ l, In64 z) (hlb : ∀ x ∈ lb, x < 256)
    (hn1 : ¬ 200 < l.length) (hn2 : ¬ 500 < n2) (hk : ¬ 1000 < k ∨ ¬ k ≤ 65536) (hmet : Met w) :
    Calls Tryd.prog 4 #[.slice A1 l.length c1, .slice A2 n2 c2, .int .i64 k] w fun e w' => e = .returned (.bool true) ∧ Below w.heap.size w w' := by
  have hdl := fo_length hl (by omega)
  have hdb := fo_byte hl
  obtain ⟨g1, g2⟩ := fo_get l hl (by omega)
  have CP := Lib.hid (fun A c W hr => foPut_any A l.length c l W hr hl (by omega))
  have CG1 := fun (A : Option Addr) (c : Nat) (W : World) (hr : Reads W W.heap.size 1 A (fo l).length (bs (fo l))) (hm : Met W) => foGet_any A (fo l).length c (l.length : Int) (fo l) W hr hdb (by omega) hm
  rw [g1, g2] at CG1
  have hlb2 : n2 = lb.length := by have := h2.1; rw [bs_length] at this; omega
  subst hlb2
  have CG := Lib.hid (fun A c W hr hm => foGet_any A lb.length c k lb W hr hlb (by omega) hm)
  obtain ⟨r, hr0⟩ : ∃ r, r = fE lb k := ⟨_, rfl⟩
  have HZ : Hid (r = 0 → 0 ≤ k ∧ k ≤ 65536 ∧ fo (fG lb k) = lb ∧ (fG lb k).length = k.toNat ∧ ∀ z ∈ fG lb k, In64 z) := by rw [hr0]; exact Lib.hid (get_fo lb hlb k)
  obtain ⟨S, hS0⟩ : ∃ S, S = fG lb k := ⟨_, rfl⟩
  rw [← hr0, ← hS0] at CG
  rw [← hS0] at HZ
  obtain ⟨p, hp0⟩ : ∃ p, p = fo l := ⟨_, rfl⟩
  rw [← hp0] at CP CG1 hdl
  have CG1 := Lib.hid CG1
  clear g1 g2 hr0 hS0 hp0 hdb hl hlb
  by_cases hk1 : 1000 < k
  case' pos =>
    have hk2 : ¬ k ≤ 65536 := by omega
    clear hk
    go_enter Tryd.func4, Tryd.ntmps4
    go_wp2_with fail
  case' neg =>
    clear hk
    go_enter Tryd.func4, Tryd.ntmps4
    go_wp2_with fail
  all_goals
    refine (CP.out A1 c1 w h1).mono ?_
    rintro e w1 ⟨v1, rfl, hown1, hb1⟩
    obtain ⟨Ax, cx, rfl, hcx, _, rx⟩ := own_slice hown1
    have h11 := h1.next hb1
    have h21 := h2.next hb1
    clear hown1 h1 h2
    go_wp2_with fail
    refine (CG1.out Ax cx w1 rx (hmet.next hb1)).mono ?_
    intro e w2 hN2
    obtain ⟨Ay, cy, rfl, _, _, ry, hb2⟩ := hN2.opened
    have h12 := h11.next hb2
    have h22 := h21.next hb2
    have hb02 := hb1.trans (hb2.mono hb1.size)
    clear hN2 h11 h21 rx hb1 hb2 CP CG1
    go_wp2_with fail
    refine (sameZ_true Ay A1 l.length cy c1 l w2 ry h12 (by omega)).mono ?_
    rintro e w3 ⟨rfl, hd3⟩
    have hn3 := hd3.below (Below.refl w2.heap.size w2)
    have hb03 := hd3.below hb02
    have h23 := h22.next hn3
    clear ry h12 h22 hb02 hd3 hn3
    go_wp2_with fail
    refine (CG.out A2 c2 w3 h23 (hmet.next hb03)).mono ?_
    intro e wa hNa
    obtain ⟨Aa, ca, rfl, _, _, ra, hba⟩ := hNa.opened
    have hb0a := hb03.trans (hba.mono hb03.size)
    have h2a := h23.next hba
    clear hNa h23 hba hb03 CG
    by_cases hrz : r = 0
    · obtain ⟨k0, k1, hpS, hSl, hS64⟩ := HZ.out hrz
      subst hrz
      have HP := Lib.hid hpS
      have HPS := Lib.hid (foPut_any Aa S.length ca S wa ra hS64 (by omega))
      clear hSl hpS hS64 HZ
      go_wp2_with fail
      refine HPS.out.mono ?_
      rintro e wb ⟨vb_, rfl, hownb, hbb⟩
      rw [HP.out] at hownb
      obtain ⟨Ab, cb, rfl, _, _, rb⟩ := own_slice hownb
      have hb0b := hb0a.trans (hbb.mono hb0a.size)
      have h2b := h2a.next hbb
      clear hownb HPS ra h2a hb0a
      go_wp2_with fail
      refine (same_true Ab A2 lb.length cb lb.length c2 lb wb rb h2b (by omega)).mono ?_
      rintro e wc ⟨rfl, hdc⟩
      have hb0c := hdc.below hb0b
      clear rb h2b hb0b hdc
      go_wp2_with fail
      refine (awake_any wc).mono ?_
      rintro e wd ⟨rfl, hbd⟩
      go_wp2_with fail
      go_ret
      exact ⟨rfl, hb0c.trans (hbd.mono hb0c.size)⟩
    · have q1 : (r == 0) = false := by simp [hrz]
      clear hrz HZ ra h2a
      go_wp2_with fail
      refine (awake_any wa).mono ?_
      rintro e wd ⟨rfl, hbd⟩
      go_wp2_with fail
      go_ret
      exact ⟨rfl, hb0a.trans (hbd.mono hb0a.size)⟩
theorem back_any (A1 A2 : Option Addr) (n1 c1 n2 c2 : Nat) (k : Int) (l : List Int) (lb : List Nat) (w : World) (h1 : Reads w w.heap.size 1 A1 n1 (zs l)) (h2 : Reads w w.heap.size 1 A2 n2 (bs lb)) (hl : ∀ z ∈ l, In64 z) (hlb : ∀ x ∈ lb, x < 256) (hmet : Met w) :
    Calls Tryd.prog 4 #[.slice A1 n1 c1, .slice A2 n2 c2, .int .i64 k] w fun e w' => e = .returned (.bool true) ∧ Below w.heap.size w w' := by
  by_cases h : 200 < n1 ∨ 500 < n2 ∨ 1000 < k ∧ k ≤ 65536
  · exact back_else A1 A2 n1 c1 n2 c2 k w h
  · obtain rfl : n1 = l.length := by have := h1.1; rw [zs_length] at this; omega
    exact back_main A1 A2 c1 n2 c2 k l lb w h1 h2 hl hlb (by omega) (by omega) (by omega) hmet
end Go.Proofs.YtpjmenaejfdiaaaDoor
