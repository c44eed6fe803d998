/- Contract of the document's May of layer 17, whatever the predicate. -/
import Derived.Test.YtobophhlcekngaaDoorZnMayC
import Derived.Test.YtobophhlcekngaaDoorJ9
import Derived.Test.YtobophhlcekngaaDoorZnMayA
import Derived.Test.YtobophhlcekngaaDoorZnMayO
import Derived.Test.YtobophhlcekngaaDoorZnMayW
namespace Go.Proofs.YtobophhlcekngaaDoor
open Go.RowKit
set_option linter.unusedVariables false
set_option linter.unusedSimpArgs false
set_option maxRecDepth 100000

theorem zcs_len' {w : World} {B m : Nat} {A : Option Addr} {l : List Zn} (h : Reads w B 8 A m (zcs l)) : l.length = m := by
  have := h.1
  rw [zcs_length] at this
  omega
/-- The document's May, of any predicate. -/
theorem refMay_any (hO : OneC) {rows : Int} {Az : Option Addr} {m cz : Nat} {zl : List Zn} : ∀ (f : Nat) (w : World) (P : Nat → Prop) (c0 c1 c2 c3 : Value) (p : Pd), IsP f w P [c0, c1, c2, c3] p → Reads w w.heap.size 8 Az m (zcs zl) →
    Calls Tryd.prog 6 #[.agg #[c0, c1, c2, c3], .int .i64 rows, .slice Az m cz] w fun e w' => e = .returned (tW (mayP rows zl p)) ∧ Below w.heap.size w w'
  | 0, _, _, _, _, _, _, _, hI, _ => hI.elim
  | f + 1, w, P, c0, c1, c2, c3, p, hI, hz => by
    obtain ⟨A, c, A', c', e, hv, _, _, us, hus, hR, hall⟩ := hI
    injection e with e0 e
    injection e with e1 e
    injection e with e2 e
    injection e with e3 _
    subst e0 e1 e2 e3
    have hzl := zcs_len' hz
    obtain ⟨op, col, vals, parts⟩ := p
    change Calls Tryd.prog 6 #[.agg #[.int .i64 op, .int .i64 col, .slice A vals.length c, .slice A' parts.length c'], .int .i64 rows, .slice Az m cz] w _
    change Reads w w.heap.size 3 A vals.length (vs vals) at hv
    change us.length = parts.length at hus
    change Reads w w.heap.size 4 A' parts.length us.flatten at hR
    change ∀ (k : Nat) (q : Pd), parts[k]? = some q → ∃ u, us[k]? = some u ∧ IsP f w P u q at hall
    have hA : AllP f w P us parts := ⟨hus, hall⟩
    rw [mayP]
    by_cases hr : rows < 1
    · rw [if_pos hr]
      exact may_none hr
    · rw [if_neg hr]
      have hr1 : 1 ≤ rows := by omega
      by_cases hw : ¬ frmZ op col vals.length parts.length ∨ (1 ≤ op ∧ op ≤ 9) ∧ (col < 0 ∨ (zl.length : Int) ≤ col)
      · rw [if_pos hw]
        rw [hzl] at hw
        exact may_wrong hr1 hw
      · rw [if_neg hw]
        have hf : frmZ op col vals.length parts.length := Classical.byContradiction fun h => hw (.inl h)
        by_cases h0 : op = 0
        · rw [if_pos h0]
          subst h0
          exact may_true hr1 hf
        · rw [if_neg h0]
          simp only
          by_cases hc : 1 ≤ op ∧ op ≤ 9
          · have hcc : 0 ≤ col ∧ col < (zl.length : Int) := by
              refine Classical.byContradiction fun h => hw (.inr ⟨hc, ?_⟩)
              omega
            obtain ⟨k, rfl⟩ : ∃ k : Nat, col = (k : Int) := ⟨col.toNat, by omega⟩
            have hkm : k < m := by omega
            obtain ⟨z, hz1⟩ : ∃ z, zl[k]? = some z := ⟨_, List.getElem?_eq_getElem (by omega)⟩
            have hgd : zl.getD ((k : Int)).toNat zNone = z := by rw [Int.toNat_natCast, List.getD_eq_getElem?_getD, hz1]; rfl
            rw [hgd]
            by_cases h9 : op = 9
            · subst h9
              rw [if_pos rfl]
              exact may_null hr1 hf hz hkm hz1
            · rw [if_neg h9, if_pos hc]
              have hm := may_col (A' := A') (c' := c') (c := c) (cz := cz) hO hr1 (by omega) hf hv hz hkm hz1
              refine hm.mono fun e w' ⟨he, hb⟩ => ⟨?_, hb⟩
              rw [he]
              split <;> rfl
          · rw [if_neg (by omega), if_neg hc]
            obtain ⟨hf1, hf2⟩ := hf
            have hcol : col = 0 := by omega
            have hvl : vals.length = 0 := by omega
            subst hcol
            rw [hvl]
            have hIH : ∀ W, Below w.heap.size w W → ∀ g0 g1 g2 g3 q, q ∈ parts → IsP f W P [g0, g1, g2, g3] q → Calls Tryd.prog 6 #[.agg #[g0, g1, g2, g3], .int .i64 rows, .slice Az m cz] W fun e w' => e = .returned (tW (mayP rows zl q)) ∧ Below W.heap.size W w' :=
              fun W hb g0 g1 g2 g3 q _ hq => refMay_any hO f W P g0 g1 g2 g3 q hq ((hz.below hb).more hb.size)
            rw [mayL_map]
            obtain ⟨t, ts, hts⟩ : ∃ u us, parts.map (mayP rows zl) = u :: us := by
              cases hp : parts with
              | nil => rw [hp] at hf2; simp at hf2; omega
              | cons q l => exact ⟨_, _, rfl⟩
            rw [hts, List.headD_cons, List.tail_cons]
            by_cases h12 : op = 12
            · subst h12
              rw [if_pos rfl]
              have hpl : parts.length = 1 := by omega
              obtain ⟨q, hq⟩ : ∃ q, parts[0]? = some q := ⟨_, List.getElem?_eq_getElem (by omega)⟩
              obtain ⟨b, o, g0, g1, g2, g3, rfl, hb0, hIq, y0, y1, y2, y3⟩ := hA.at_ hR rfl hq
              rw [Nat.zero_mul, Nat.add_zero] at y0 y1 y2 y3
              have ht : mayP rows zl q = t := by
                have h1 := congrArg (·[0]?) hts
                simp only [List.getElem?_map, hq] at h1
                simpa using h1
              rw [hpl]
              exact may_not hr1 hb0 y0 y1 y2 y3 hIq.four.2 (fun W hb => by
                have := hIH W hb g0 g1 g2 g3 q (List.mem_of_getElem? hq) (hIq.next hb)
                rw [ht] at this
                exact this)
            · rw [if_neg h12]
              have h3 : op = 10 ∨ op = 11 := by omega
              rcases h3 with rfl | rfl
              · exact may_and hr1 rfl (by omega) hR hA hIH hts
              · exact may_or hr1 rfl (by omega) hR hA hIH hts
/-- So the document's May answers. -/
theorem refMayC (hO : OneC) (w0 : World) : MayC w0 6 :=
  fun W _ f P c0 c1 c2 c3 p rows A n c zl hI _ _ hz _ _ => refMay_any hO f W P c0 c1 c2 c3 p hI hz
end Go.Proofs.YtobophhlcekngaaDoor
