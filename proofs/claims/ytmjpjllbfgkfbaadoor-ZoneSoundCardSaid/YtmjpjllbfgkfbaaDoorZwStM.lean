/- Contract of a step's may, whatever the predicate: which truths may be of it is what the document says. -/
import Derived.Test.YtmjpjllbfgkfbaaDoorZwStepC
import Derived.Test.YtmjpjllbfgkfbaaDoorJ4
namespace Go.Proofs.YtmjpjllbfgkfbaaDoor
open Go.RowKit
set_option linter.unusedVariables false
set_option linter.unusedSimpArgs false
set_option maxRecDepth 100000

theorem zcs_len {w : World} {B m : Nat} {A : Option Addr} {l : List Zn} (h : Reads w B 8 A m (zcs l)) : l.length = m := by
  have := h.1
  rw [zcs_length] at this
  omega
theorem stepmay_any {w : World} {B m cz n c : Nat} {rows : Int} {Az A : Option Addr} {zl : List Zn} (t : Tr) (hn : NodeZ m w B t) (hB : B ≤ w.heap.size) (hr : 1 ≤ rows) (hz : Reads w w.heap.size 8 Az m (zcs zl))
    (hts : okT m t → Reads w w.heap.size 3 A n (bs3 (t.p.parts.map (mayP rows zl))) ∧ n = t.p.parts.length ∧ n ≤ c) :
    Calls Tryd.prog 32 #[.agg #[.pointer (some ⟨t.b, t.o, none⟩), .bool (decide (okT m t))], .int .i64 rows, .slice Az m cz, .slice A n c] w fun e w' => e = .returned (tW (mayP rows zl t.p)) ∧ Below w.heap.size w w' := by
  obtain ⟨Av, cv, Ap, cp, hb, x0, x1, x2, x3, hvr, hvl, hpl, _, _⟩ := hn
  have hND : Nd w t.b t.o t.p.op t.p.col Av t.p.vals.length cv Ap t.p.parts.length cp := ⟨by omega, x0, x1, x2, x3⟩
  have hzl := zcs_len hz
  rw [mayP_is rows zl t.p hr, hzl]
  by_cases hok : okT m t
  · rw [show decide (okT m t) = true by simpa using hok, if_pos hok]
    obtain ⟨hR, hn1, hn2⟩ := hts hok
    obtain ⟨hf, hcol⟩ := hok
    obtain ⟨op, hop⟩ : ∃ op, t.p.op = op := ⟨_, rfl⟩
    obtain ⟨col, hcl⟩ : ∃ col, t.p.col = col := ⟨_, rfl⟩
    obtain ⟨nv, hnv⟩ : ∃ nv, t.p.vals.length = nv := ⟨_, rfl⟩
    obtain ⟨np, hnp⟩ : ∃ np, t.p.parts.length = np := ⟨_, rfl⟩
    rw [hop, hcl, hnv, hnp] at hND hf
    rw [hop, hcl] at hcol ⊢
    rw [hnv] at hvl hvr
    rw [hnp] at hn1 hpl
    obtain ⟨hf1, hf2⟩ := hf
    have hv3 : Reads w w.heap.size 3 Av nv (vs t.p.vals) := hvr.more hB
    by_cases hc : 1 ≤ op ∧ op ≤ 9
    · have hcc := hcol hc
      obtain ⟨k, hk⟩ : ∃ k : Nat, col = (k : Int) := ⟨col.toNat, by omega⟩
      subst hk
      have hkm : k < m := by omega
      obtain ⟨z, hz1⟩ : ∃ z, zl[k]? = some z := ⟨_, List.getElem?_eq_getElem (by omega)⟩
      have hgd : zl.getD k zNone = z := by rw [List.getD_eq_getElem?_getD, hz1]; rfl
      by_cases h9 : op = 9
      · subst h9
        have hs : stZ rows zl 9 (k : Int) t.p.vals (mayL rows zl t.p.parts) = (decide (z.1 < rows), false, decide (0 < z.1)) := by
          unfold stZ
          rw [if_neg (by omega), if_pos rfl, Int.toNat_natCast, hgd]
        rw [hs]
        exact step_9 hND hz hkm hz1
      · have hs : stZ rows zl op (k : Int) t.p.vals (mayL rows zl t.p.parts) = ((if z.2.1 then ofZ op t.p.vals z.2.2.1 z.2.2.2 else (false, false)).2, decide (0 < z.1), (if z.2.1 then ofZ op t.p.vals z.2.2.1 z.2.2.2 else (false, false)).1) := by
          unfold stZ
          rw [if_neg (by omega), if_neg h9, if_pos hc, Int.toNat_natCast, hgd]
        rw [hs]
        exact step_col hND hv3 (by omega) (by omega) hvl (by omega) hz hkm hz1
    · by_cases h0 : op = 0
      · subst h0
        rw [show stZ rows zl 0 col t.p.vals (mayL rows zl t.p.parts) = (false, false, true) from rfl]
        exact step_0 hND
      · rw [mayL_map]
        have h3 : op = 10 ∨ op = 11 ∨ op = 12 := by omega
        obtain ⟨⟨t0, t1, t2⟩, ts, hts'⟩ : ∃ u us, t.p.parts.map (mayP rows zl) = u :: us := by
          cases hp : t.p.parts with
          | nil => rw [hp] at hnp; simp at hnp; omega
          | cons q l => exact ⟨_, _, rfl⟩
        rw [hts'] at hR ⊢
        rcases h3 with rfl | rfl | rfl
        · rw [show stZ rows zl 10 col t.p.vals ((t0, t1, t2) :: ts) = ts.foldl (jn3 10) (t0, t1, t2) from rfl]
          exact step_10 hND hR hn2 (by omega)
        · rw [show stZ rows zl 11 col t.p.vals ((t0, t1, t2) :: ts) = ts.foldl (jn3 11) (t0, t1, t2) from rfl]
          exact step_11 hND hR hn2 (by omega)
        · rw [show stZ rows zl 12 col t.p.vals ((t0, t1, t2) :: ts) = (t2, t1, t0) from rfl]
          exact step_12 hND hR (by omega)
  · rw [show decide (okT m t) = false by simpa using hok, if_neg hok]
    exact step_no hND.lt
end Go.Proofs.YtmjpjllbfgkfbaaDoor
