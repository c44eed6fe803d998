/- pred's check and Check of any predicate and any schema: something comes of it. Nothing that was there changes. -/
import Derived.Test.YtmjpjllbfgkfbaaDoorZwChkV
namespace Go.Proofs.YtmjpjllbfgkfbaaDoor
open Go.RowKit
set_option linter.unusedVariables false
set_option linter.unusedSimpArgs false
set_option maxRecDepth 100000

section
variable {w0 : World} {S : Option Addr} {m cs : Nat} {sl : List Cl}
/-- check of a predicate that may be nested so much deeper: something comes of it. -/
def CkC (w0 : World) (S : Option Addr) (m cs d : Nat) : Prop := ∀ (W : World), Below w0.heap.size w0 W → ∀ (f : Nat) (P : Nat → Prop) (p : Pd) (A A' : Option Addr) (c c' b o : Nat) (x : Int), x = 32 - (d : Int) → d ≤ 32 →
  Nd W b o p.op p.col A p.vals.length c A' p.parts.length c' → IsP f W P [.int .i64 p.op, .int .i64 p.col, .slice A p.vals.length c, .slice A' p.parts.length c'] p → (∀ k, Small k p) →
  Calls Tryd.prog 16 #[.slice S m cs, .pointer (some ⟨b, o, none⟩), .int .i64 x] W fun e w' => (∃ r : Int, e = .returned (.int .i64 r)) ∧ Below W.heap.size W w'
theorem ck_zero : CkC w0 S m cs 0 := by
  intro W hW f P p A A' c c' b o x hx hd hN hI hS
  obtain rfl : x = 32 := by simpa using hx
  clear hN hI hS hx hd
  go_enter Tryd.func16, Tryd.ntmps16
  go_wp2_with fail
  go_ret
  exact ⟨⟨_, rfl⟩, Below.refl _ _⟩
set_option maxHeartbeats 2000000 in
theorem ck_step (hs : Shp w0) (hS : Reads w0 w0.heap.size 3 S m (cls sl)) (hm : m ≤ 65536) {d : Nat} (IH : CkC w0 S m cs d) : CkC w0 S m cs (d + 1) := by
  intro W hW f P p A A' c c' b o x hx hd hN hI hsm
  have hx1 : 0 ≤ x := by omega
  have hx2 : x < 32 := by omega
  have q0 : (x == 32) = false := by simp; omega
  have d0 : decide (x = 32) = false := by simp; omega
  cases f with
  | zero => exact hI.elim
  | succ f =>
  obtain ⟨A1, c1, A1', c1', e, h1, h2, h3, us, hus, hrd, hpt⟩ := hI
  simp only [List.cons.injEq, Value.slice.injEq, and_true, true_and] at e
  obtain ⟨⟨rfl, rfl⟩, rfl, rfl⟩ := e
  obtain ⟨v1, v2, v3⟩ := hsm 1
  have hsm' : ∀ q ∈ p.parts, ∀ k, Small k q := fun q hq k => (hsm (k + 1)).2.2 q hq
  have HF := Lib.hid (faultG_any (cs := cs) hN (hs.next hW) ((hS.below hW).more hW.size) h1 hm v1 v2)
  obtain ⟨E, hE⟩ : ∃ E, fltV m sl p.vals p.op p.col p.vals.length p.parts.length = E := ⟨_, rfl⟩
  rw [hE] at HF
  have HA := Lib.hid (show AllP f W P us p.parts from ⟨hus, hpt⟩)
  have HR := Lib.hid hrd
  have HN := Lib.hid fun (V : World) (hb : Below W.heap.size W V) => hN.next hb
  have HC := Lib.hid fun (V : World) (hb : Below W.heap.size W V) (q : Pd) (hq : q ∈ p.parts) (bq oq : Nat) (g0 g1 g2 g3 : Value) (hIq : IsP f V P [g0, g1, g2, g3] q) (hbq : bq < V.heap.size) (y0 : V.cell? ⟨bq, oq, none⟩ = some g0) (y1 : V.cell? ⟨bq, oq + 1, none⟩ = some g1) (y2 : V.cell? ⟨bq, oq + 2, none⟩ = some g2) (y3 : V.cell? ⟨bq, oq + 3, none⟩ = some g3) =>
    show Calls Tryd.prog 16 #[.slice S m cs, .pointer (some ⟨bq, oq, none⟩), .int .i64 (x + 1)] V fun e w' => (∃ r : Int, e = .returned (.int .i64 r)) ∧ Below V.heap.size V w' from by
      have hIq0 := hIq
      cases f with
      | zero => exact hIq.elim
      | succ f =>
      obtain ⟨B, k, B', k', e, _⟩ := hIq
      simp only [List.cons.injEq, and_true] at e
      obtain ⟨rfl, rfl, rfl, rfl⟩ := e
      exact IH V (hW.trans (hb.mono hW.size)) (f + 1) P q B B' k k' bq oq (x + 1) (by omega) (by omega) ⟨hbq, y0, y1, y2, y3⟩ hIq0 (hsm' q hq)
  obtain ⟨nv, hnv⟩ : ∃ n, p.vals.length = n := ⟨_, rfl⟩
  obtain ⟨np, hnp⟩ : ∃ n, p.parts.length = n := ⟨_, rfl⟩
  have HNP := Lib.hid hnp
  rw [hnv, hnp] at HN
  rw [hnp] at HR v2
  clear hN h1 h2 h3 hrd hpt hE hsm hsm' v3 hs hS IH hx hd hus hnp hnv
  go_enter Tryd.func16, Tryd.ntmps16
  go_wp2_with fail
  refine HF.out.mono ?_
  rintro e w1 ⟨rfl, hb1⟩
  have HB1 := Lib.hid hb1
  clear HF hb1
  go_wp2_with fail
  go_loopw [7, 8] (fun e s wr => ∃ (r : Int) (i : Nat), e = .int .i64 r ∧ i ≤ np ∧ s = .int .i64 (i : Int) ∧ Below W.heap.size W wr) (fun _ s _ => np - (intOf s).toNat)
  case atStart => exact ⟨_, 0, rfl, Nat.zero_le _, rfl, HB1.out⟩
  case round =>
    clear HB1
    obtain ⟨r, i, rfl, hi, rfl, hb⟩ := hrel
    obtain ⟨_, x0, x1, x2, x3⟩ := HN.out _ hb
    by_cases hlt : i < np
    · by_cases hr : r = 0
      · subst hr
        obtain ⟨q, hq⟩ : ∃ q, p.parts[i]? = some q := ⟨_, List.getElem?_eq_getElem (by rw [HNP.out]; exact hlt)⟩
        obtain ⟨bq, oq, g0, g1, g2, g3, rfl, hbq, hIq, y0, y1, y2, y3⟩ := (HA.out.next hb).at_ (HR.out.below hb) HNP.out hq
        have HC2 := Lib.hid (HC.out wr hb q (List.mem_of_getElem? hq) bq (oq + i * 4) g0 g1 g2 g3 hIq (Nat.lt_of_lt_of_le hbq hb.size) y0 y1 y2 y3)
        have hB := Lib.hid hb
        clear hIq y0 y1 y2 y3 hb hq HC HA HR HN
        go_wp2_with fail
        refine HC2.out.mono ?_
        rintro e w2 ⟨⟨r2, rfl⟩, hb2⟩
        go_wp2_with fail
        go_round
        case rel => exact ⟨r2, i + 1, rfl, by omega, by go_num, hB.out.trans (hb2.mono hB.out.size)⟩
        case measure => simp [intOf]; omega
      · have q1 : (r == 0) = false := by simpa using hr
        have hB := Lib.hid hb
        clear hb HC HA HR HN
        go_wp2_with fail
        go_ret
        exact ⟨⟨_, rfl⟩, hB.out⟩
    · have hB := Lib.hid hb
      clear hb HC HA HR HN
      go_wp2_with fail
      go_ret
      exact ⟨⟨_, rfl⟩, hB.out⟩
theorem ck_any (hs : Shp w0) (hS : Reads w0 w0.heap.size 3 S m (cls sl)) (hm : m ≤ 65536) : ∀ d, CkC w0 S m cs d
  | 0 => ck_zero
  | d + 1 => ck_step hs hS hm (ck_any hs hS hm d)
set_option maxHeartbeats 1000000 in
/-- Check: something comes of it. -/
theorem CheckG_any {w : World} (hs : Shp w) (hS : Reads w w.heap.size 3 S m (cls sl)) (hm : m ≤ 65536) {f : Nat} {P : Nat → Prop} {c0 c1 c2 c3 : Value} {p : Pd} (hI : IsP f w P [c0, c1, c2, c3] p) (hsm : ∀ k, Small k p) :
    Calls Tryd.prog 6 #[.slice S m cs, .agg #[c0, c1, c2, c3]] w fun e w' => (∃ r : Int, e = .returned (.int .i64 r)) ∧ Below w.heap.size w w' := by
  have hI0 := hI
  cases f with
  | zero => exact hI.elim
  | succ f =>
  obtain ⟨A, c, A', c', e, _⟩ := hI
  simp only [List.cons.injEq, and_true] at e
  obtain ⟨rfl, rfl, rfl, rfl⟩ := e
  have hal := (Below.refl w.heap.size w).alloc (Nat.le_refl _) (.cells #[.int .i64 p.op, .int .i64 p.col, .slice A p.vals.length c, .slice A' p.parts.length c'] 26)
  have hk := Blk.new w 26 #[.int .i64 p.op, .int .i64 p.col, .slice A p.vals.length c, .slice A' p.parts.length c']
  have hN : Nd (w.alloc (.cells #[.int .i64 p.op, .int .i64 p.col, .slice A p.vals.length c, .slice A' p.parts.length c'] 26)) w.heap.size 0 p.op p.col A p.vals.length c A' p.parts.length c' := ⟨by simp, hk.cell 0, hk.cell 1, hk.cell 2, hk.cell 3⟩
  have HC := Lib.hid (ck_any (cs := cs) hs hS hm 32 _ hal (f + 1) P p A A' c c' w.heap.size 0 0 (by simp) (Nat.le_refl _) hN (hI0.next hal) hsm)
  have HA := Lib.hid hal
  clear hs hS hal hk hN hI0 hsm
  go_enter Tryd.func6, Tryd.ntmps6
  go_wp2_with fail
  refine HC.out.mono ?_
  rintro e w1 ⟨⟨r, rfl⟩, hb1⟩
  go_wp2_with fail
  go_ret
  exact ⟨⟨_, rfl⟩, HA.out.trans (hb1.mono HA.out.size)⟩
end
end Go.Proofs.YtmjpjllbfgkfbaaDoor
