/- Texts joined: VlOff RdApp VlTkS. -/
import Derived.Test.YtieknhhhcjdbnaaDoorJ22
import Derived.Test.YtieknhhhcjdbnaaDoorJ26
import Derived.Test.YtieknhhhcjdbnaaDoorJ20
import Derived.Test.YtieknhhhcjdbnaaDoorJ25
/- Slices that stand while a reader's block, or a row of the call's own, changes; a column, a row of values, as a new element. No condition. -/
namespace Go.Proofs.YtieknhhhcjdbnaaDoor
open Go.RowKit
set_option linter.unusedVariables false
set_option linter.unusedSimpArgs false
set_option maxRecDepth 100000

/-- The slice lies off the block. -/
def Apart (A : Option Addr) (g : Nat) : Prop := ∀ ad, A = some ad → ad.block ≠ g
theorem Apart.none_ (g : Nat) : Apart none g := fun ad h => by cases h
theorem Reads.off {w w' : World} {size n g : Nat} {A : Option Addr} {xs : List Value} (h : Reads w w.heap.size size A n xs) (hg : w.grownBy w' (some g)) (hne : Apart A g) : Reads w' w'.heap.size size A n xs := by
  refine ⟨h.1, fun hn => ?_⟩
  obtain ⟨ad, had, hlt, hc⟩ := h.2 hn
  refine ⟨ad, had, Nat.lt_of_lt_of_le hlt hg.size, fun j u hu => hg.cell (hc j u hu) ?_⟩
  rw [block_of_add]
  intro e
  injection e with e
  exact hne ad had e
/-- A slice that reads as values, off the block 'own' and off the blocks 'P'. -/
def OffV (w : World) (own : Option Nat) (P : Nat → Prop) (v : Value) (l : List (Int × Int × Tx)) : Prop :=
  ∃ A c, v = .slice A l.length c ∧ Reads w w.heap.size 3 A l.length (vs l) ∧ (0 < l.length → ∀ ad, A = some ad → some ad.block ≠ own ∧ ¬ P ad.block)
theorem OffV.isV {w : World} {own : Option Nat} {P : Nat → Prop} {v : Value} {l : List (Int × Int × Tx)} (h : OffV w own P v l) : IsV w v l := by
  obtain ⟨A, c, e, hr, _⟩ := h
  exact ⟨A, c, e, hr⟩
theorem OffV.next {w w' : World} {own : Option Nat} {P : Nat → Prop} {v : Value} {l : List (Int × Int × Tx)} (h : OffV w own P v l) (hb : Below w.heap.size w w') : OffV w' own P v l := by
  obtain ⟨A, c, e, hr, ho⟩ := h
  exact ⟨A, c, e, (hr.below hb).more hb.size, ho⟩
/-- One of the blocks 'P' changes. -/
theorem OffV.rd {w w' : World} {own : Option Nat} {P : Nat → Prop} {v : Value} {l : List (Int × Int × Tx)} (h : OffV w own P v l) {g : Nat} (hg : w.grownBy w' (some g)) (hP : P g) : OffV w' own P v l := by
  obtain ⟨A, c, e, hr, ho⟩ := h
  refine ⟨A, c, e, ⟨hr.1, fun hn => ?_⟩, ho⟩
  obtain ⟨ad, had, hlt, hc⟩ := hr.2 hn
  refine ⟨ad, had, Nat.lt_of_lt_of_le hlt hg.size, fun j u hu => hg.cell (hc j u hu) ?_⟩
  rw [block_of_add]
  intro e
  injection e with e
  exact (ho hn ad had).2 (by rw [show ad.block = g from e]; exact hP)
/-- The row of the call's own grows, in place or in a new block. -/
theorem OffV.grown {w w' : World} {own own' : Option Nat} {P : Nat → Prop} {v : Value} {l : List (Int × Int × Tx)} (h : OffV w own P v l) (hg : w.grownBy w' own) (ho' : own' = own ∨ own' = some w.heap.size) : OffV w' own' P v l := by
  obtain ⟨A, c, e, hr, ho⟩ := h
  refine ⟨A, c, e, ⟨hr.1, fun hn => ?_⟩, fun hn ad had => ⟨?_, (ho hn ad had).2⟩⟩
  · obtain ⟨ad, had, hlt, hc⟩ := hr.2 hn
    refine ⟨ad, had, Nat.lt_of_lt_of_le hlt hg.size, fun j u hu => hg.cell (hc j u hu) ?_⟩
    rw [block_of_add]
    exact (ho hn ad had).1
  · rcases ho' with rfl | rfl
    · exact (ho hn ad had).1
    · obtain ⟨ad', had', hlt, _⟩ := hr.2 hn
      rw [had] at had'
      injection had' with had'
      subst had'
      intro h
      injection h with h
      omega
/-- A row of the call's own, made behind what lies in 'own' and behind 'P'. -/
theorem OffV.of_own {w : World} {B n : Nat} {P : Nat → Prop} {own : Option Nat} {v : Value} {t : TypeId} {l : List (Int × Int × Tx)} (h : w.ownsRow B t 3 v n (vs l)) (hn : l.length = n) (ho : ∀ q, own = some q → q < B) (hP : ∀ q, P q → q < B) : OffV w own P v l := by
  subst hn
  obtain ⟨A, c, rfl, _, _, hr⟩ := own_slice h
  refine ⟨A, c, rfl, hr, fun h0 ad had => ?_⟩
  obtain ⟨q, cap, hv, hB, _⟩ := h.form h0
  have hA : A = some ⟨q, 0, none⟩ := by injection hv
  rw [hA] at had
  injection had with had
  subst had
  exact ⟨fun e => by have := ho q e.symm; omega, fun e => by have := hP q e; omega⟩
theorem OffV.one {w : World} {own : Option Nat} {P : Nat → Prop} {v : Value} {l : List (Int × Int × Tx)} (h : OffV w own P v l) : v.oneCell' = true := by
  obtain ⟨A, c, rfl, _⟩ := h; rfl
/-- Rows, each off the block 'own' and off 'P'. -/
def AllOff (w : World) (own : Option Nat) (P : Nat → Prop) (us : List Value) (rows : List (List (Int × Int × Tx))) : Prop := ∀ (k : Nat) (r : List (Int × Int × Tx)), rows[k]? = some r → ∃ u : Value, us[k]? = some u ∧ OffV w own P u r
theorem AllOff.nil (w : World) (own : Option Nat) (P : Nat → Prop) : AllOff w own P [] [] := fun k r h => by simp at h
theorem AllOff.next {w w' : World} {own : Option Nat} {P : Nat → Prop} {us : List Value} {rows : List (List (Int × Int × Tx))} (h : AllOff w own P us rows) (hb : Below w.heap.size w w') : AllOff w' own P us rows := fun k r hk => by
  obtain ⟨u, h1, h2⟩ := h k r hk
  exact ⟨u, h1, h2.next hb⟩
theorem AllOff.rd {w w' : World} {own : Option Nat} {P : Nat → Prop} {us : List Value} {rows : List (List (Int × Int × Tx))} (h : AllOff w own P us rows) {g : Nat} (hg : w.grownBy w' (some g)) (hP : P g) : AllOff w' own P us rows := fun k r hk => by
  obtain ⟨u, h1, h2⟩ := h k r hk
  exact ⟨u, h1, h2.rd hg hP⟩
theorem AllOff.grown {w w' : World} {own own' : Option Nat} {P : Nat → Prop} {us : List Value} {rows : List (List (Int × Int × Tx))} (h : AllOff w own P us rows) (hg : w.grownBy w' own) (ho' : own' = own ∨ own' = some w.heap.size) : AllOff w' own' P us rows := fun k r hk => by
  obtain ⟨u, h1, h2⟩ := h k r hk
  exact ⟨u, h1, h2.grown hg ho'⟩
theorem AllOff.snoc {w : World} {own : Option Nat} {P : Nat → Prop} {us : List Value} {rows : List (List (Int × Int × Tx))} {u : Value} {r : List (Int × Int × Tx)} (h : AllOff w own P us rows) (hl : us.length = rows.length) (hu : OffV w own P u r) : AllOff w own P (us ++ [u]) (rows ++ [r]) := by
  intro k q hk
  by_cases hlt : k < rows.length
  · rw [List.getElem?_append_left hlt] at hk
    obtain ⟨v, h1, h2⟩ := h k q hk
    exact ⟨v, by rw [List.getElem?_append_left (by omega)]; exact h1, h2⟩
  · have hk2 : k < (rows ++ [r]).length := (List.getElem?_eq_some_iff.1 hk).1
    have e : k = rows.length := by simp at hk2; omega
    subst e
    rw [List.getElem?_append_right (Nat.le_refl _), Nat.sub_self] at hk
    injection hk with hk
    subst hk
    exact ⟨u, by rw [← hl, List.getElem?_append_right (Nat.le_refl _), Nat.sub_self]; rfl, hu⟩
theorem AllOff.vv {w : World} {own : Option Nat} {B : Nat} {P : Nat → Prop} {t : TypeId} {v : Value} {us : List Value} {rows : List (List (Int × Int × Tx))} (h : AllOff w own P us rows) (hown : w.ownsRow B t 1 v rows.length us) : ∃ A c, v = .slice A rows.length c ∧ VV w A rows := by
  obtain ⟨A, c, rfl, _, _, hr⟩ := own_slice hown
  exact ⟨A, c, rfl, us, hr, fun k r hk => by obtain ⟨u, h1, h2⟩ := h k r hk; exact ⟨u, h1, h2.isV⟩⟩
theorem info_col : (Tryd.prog.info? 69).map (fun i => (i.zero, i.size, i.bytes)) = some (some (.agg #[.int .i64 0, .bool false, .int .i64 0]), 3, 24) := by kernel_rfl
theorem info_vals : (Tryd.prog.info? 47).map (fun i => (i.zero, i.size, i.bytes)) = some (some (.slice none 0 0), 1, 24) := by kernel_rfl
/-- A new element of three cells. -/
theorem reads3 (w : World) (t : TypeId) (a b c : Value) : Reads (w.alloc (.cells #[a, b, c] t)) (w.heap.size + 1) 3 (some ⟨w.heap.size, 0, none⟩) 1 [a, b, c] := by
  refine ⟨rfl, fun _ => ⟨_, rfl, Nat.lt_succ_self _, fun j u hu => ?_⟩⟩
  rw [plain_add, Nat.zero_add, (Blk.new w t #[a, b, c]).cell]
  simpa using hu
/-- A row of the call's own lies off what was there before it. -/
theorem own_apart {w : World} {B g n size : Nat} {t : TypeId} {A : Option Addr} {c : Nat} {xs : List Value} (h : w.ownsRow B t size (.slice A n c) n xs) (hg : g < B) : Apart A g := by
  intro ad had
  rcases h.2 with ⟨e, _⟩ | ⟨q, cap, cur, e, hB, _⟩
  · injection e with e; rw [e] at had; cases had
  · injection e with e; rw [e] at had; injection had with had; subst had; show q ≠ g; omega
theorem only_rowN {a w w2 : World} {g n size : Nat} {B : Nat} {t : TypeId} {v : Value} {xs : List Value} (h : a.grownBy w (some g)) (hB : a.heap.size ≤ B) (hown : w.ownsRow B t size v n xs) (o : Obj) (hg : (w.alloc o).grownBy w2 v.ownBlock) : a.grownBy w2 (some g) := by
  have h1 := only_alloc h o
  refine ⟨hg.os.trans h1.os, hg.tape.trans h1.tape, hg.output.trans h1.output, Nat.le_trans h1.size hg.size, fun i hi hne => ?_⟩
  refine (hg.block i (Nat.lt_of_lt_of_le hi h1.size) (fun e => ?_)).trans (h1.block i hi hne)
  have := (hown.lt i e.symm).1
  omega
end Go.Proofs.YtieknhhhcjdbnaaDoor

/- A reader stands while a row of numbers behind it grows. -/
namespace Go.Proofs.YtieknhhhcjdbnaaDoor
open Go.RowKit
set_option linter.unusedVariables false
set_option linter.unusedSimpArgs false
set_option maxRecDepth 100000

theorem RdS.app {w w' : World} {g : Nat} {l : List Nat} {at_ : Nat} {x : Option (Int × Nat)} (h : RdS w g l at_ x) {B n size : Nat} {t : TypeId} {v : Value} {xs : List Value} (hown : w.ownsRow B t size v n xs) (ht : t ≠ 98) (hgB : g < B) (o : Obj)
    (hg : (w.alloc o).grownBy w' v.ownBlock) : RdS w' g l at_ x := by
  have hown2 := hown.alloc o
  obtain ⟨A, n', c, err, hR, hE⟩ := h.alloc o
  have hlt := hR.blk.lt
  have hne : some g ≠ v.ownBlock := fun e => by have := (hown.lt g e.symm).1; omega
  refine ⟨A, n', c, err, ⟨hR.blk.grown hg hne, hR.reads.grown hg (Nat.le_of_lt hlt) (fun q hq => by have := (hown.lt q hq).1; omega), hR.cap, hR.place, hR.size, hR.byte⟩, hE.next fun f t' cs hf ht' => hf.grown hg (fun e => ?_)⟩
  rcases hown2.2 with ⟨rfl, _⟩ | ⟨q, cap, cur, rfl, _, hq, _⟩
  · cases e
  · have e2 : f = q := by simpa [Value.ownBlock] using e
    subst e2
    exact hf.type_ne (show Blk _ f t cur from hq) (by rw [ht']; exact fun e => ht e.symm) rfl
end Go.Proofs.YtieknhhhcjdbnaaDoor

/- Contract of package value's TakeSchema: the schema that stands there, in new memory, and the reader behind it. -/
namespace Go.Proofs.YtieknhhhcjdbnaaDoor
open Go.RowKit
set_option linter.unusedVariables false
set_option linter.unusedSimpArgs false
set_option maxRecDepth 100000

/-- Columns in new memory, and the reader behind them. -/
def TookS (w : World) (g : Nat) (b : List Nat) (r : List Cl × Nat × Option (Int × Nat)) (e : Ending) (w' : World) : Prop :=
  ∃ v, e = .returned v ∧ w'.ownsRow w.heap.size 69 3 v r.1.length (cls r.1) ∧ RdTo w g b r.2.1 r.2.2 w'
set_option maxHeartbeats 2000000 in
theorem takeS_any {w : World} {g : Nat} {b : List Nat} {at_ : Nat} {x : Option (Int × Nat)} (hm : Met w) (hS : RdS w g b at_ x) (hx : XOk x) :
    Calls Tryd.prog 11 #[.pointer (some ⟨g, 0, none⟩)] w (TookS w g b (tkS b at_ x)) := by
  obtain ⟨i0, hi0, hz0, hz1, hz2⟩ := info_parts info_col
  have hgw := hS.lt
  have hby := hS.byte
  have HM := Lib.hid fun (W : World) (h : w.grownBy W (some g)) => hm.rd3 hS h
  have hfx := nfix_is 1 hS
  have hsm := fix_small b at_ x hby
  have hx0 := xok_fix hx b at_ 1
  have hT : tkS b at_ x = (if failS (csS b (fixS b at_ x 1).2.1 (fixS b at_ x 1).2.2 (fixS b at_ x 1).1).2.1 (csS b (fixS b at_ x 1).2.1 (fixS b at_ x 1).2.2 (fixS b at_ x 1).1).2.2 (scE (csS b (fixS b at_ x 1).2.1 (fixS b at_ x 1).2.2 (fixS b at_ x 1).1).1) = none then (csS b (fixS b at_ x 1).2.1 (fixS b at_ x 1).2.2 (fixS b at_ x 1).1).1 else [],
    (csS b (fixS b at_ x 1).2.1 (fixS b at_ x 1).2.2 (fixS b at_ x 1).1).2.1, failS (csS b (fixS b at_ x 1).2.1 (fixS b at_ x 1).2.2 (fixS b at_ x 1).1).2.1 (csS b (fixS b at_ x 1).2.1 (fixS b at_ x 1).2.2 (fixS b at_ x 1).1).2.2 (scE (csS b (fixS b at_ x 1).2.1 (fixS b at_ x 1).2.2 (fixS b at_ x 1).1).1)) := rfl
  obtain ⟨⟨c, a0, x0⟩, hF⟩ : ∃ y, fixS b at_ x 1 = y := ⟨_, rfl⟩
  rw [hF] at hfx hsm hT hx0
  simp only at hfx hsm hT hx0
  have hft : 69 ≠ 98 := by decide
  have HT := Lib.hid hT; have HX := Lib.hid (xok_csS hx0 b a0); have HFX := Lib.hid hfx; have HFT := Lib.hid hft
  have HLN := Lib.hid (csS_length b a0 x0)
  have HNX : Hid (∀ k, csS b a0 x0 (k + 1) = ((csS b a0 x0 k).1 ++ [(tkC b (csS b a0 x0 k).2.1 (csS b a0 x0 k).2.2).1], (tkC b (csS b a0 x0 k).2.1 (csS b a0 x0 k).2.2).2)) := Lib.hid fun k => rfl
  have HZ : Hid (csS b a0 x0 0 = ([], a0, x0)) := Lib.hid rfl
  obtain ⟨cs, hcs⟩ : ∃ f : Nat → List Cl × Nat × Option (Int × Nat), csS b a0 x0 = f := ⟨_, rfl⟩
  rw [hcs] at HT HX HLN HNX HZ
  clear hfx hT hm hS hx hx0 hF hcs hft hby
  go_enter Tryd.func11, Tryd.ntmps11
  go_wp2_with fail
  refine HFX.out.mono ?_
  rintro e w1 ⟨rfl, hS1, hG1⟩
  go_wp2_with fail
  go_loopw [3, 6] (fun v i wr => ∃ k : Nat, k ≤ c ∧ i = .int .u64 (k : Int) ∧ wr.ownsRow w.heap.size 69 3 v k (cls (cs k).1) ∧ RdS wr g b (cs k).2.1 (cs k).2.2 ∧ w.grownBy wr (some g)) (fun _ i _ => c - (intOf i).toNat)
  case atStart => exact ⟨0, Nat.zero_le _, rfl, by rw [HZ.out]; exact own_nil _ _ _ _, by rw [HZ.out]; exact hS1, hG1⟩
  case round =>
    clear hS1 hG1 HFX
    obtain ⟨k, hk, rfl, hown, hS, hG⟩ := hrel
    by_cases hlt : k < c
    · have htk := takeC_any hS
      have hnx := HNX.out k
      obtain ⟨⟨⟨kd, nu, wy⟩, a2, x2⟩, hC⟩ : ∃ y, tkC b (cs k).2.1 (cs k).2.2 = y := ⟨_, rfl⟩
      rw [hC] at htk hnx
      have htk' : Calls Tryd.prog 37 #[.pointer (some ⟨g, 0, none⟩)] wr fun e w' => e = .returned (.agg #[.int .i64 kd, .bool nu, .int .i64 wy]) ∧ RdTo wr g b a2 x2 w' := htk
      have HTK := Lib.hid htk'; have HN := Lib.hid hnx
      clear htk hnx hC htk' hS
      go_wp2_with fail
      refine HTK.out.mono ?_
      rintro e w2 ⟨rfl, hS2, hG2⟩
      have hown2 := own_before hown hG2 (fun r hr => by injection hr with hr; omega)
      have hG02 := only_trans hG hG2
      have hb2 := hG02.size
      clear hown hG hG2 HTK
      go_wp2_with (at_builtin
                   refine wpList_append_any _ rfl (.tmp 8) (.tmp 11) _ rfl w.heap.size 69 i0 _ 3 24 Tryd.underlying23 hi0 hz0 hz1 hz2 rfl (by omega) u3 k (cls (cs k).1) rfl
                     (hown2.alloc _) (w2.heap.size + 1) (some ⟨w2.heap.size, 0, none⟩) 1 1 (cc (kd, nu, wy)) rfl (reads3 w2 _ _ _ _) (cc_cell _) (by unfold maxLen; omega) (by omega) (by simp; omega) ?_
                   intro v3 w3 hown3 hg3 hat3)
      go_round
      case rel =>
        refine ⟨k + 1, by omega, by go_num, ?_, ?_, only_rowN hG02 (Nat.le_refl _) hown2 _ hg3⟩
        · rw [HN.out, cls_append, cls_one]; exact hown3
        · rw [HN.out]; exact hS2.app hown2 HFT.out hgw _ hg3
      case measure => simp [intOf]; omega
    · obtain rfl : k = c := by omega
      obtain ⟨A, cp, rfl, _, _, hr⟩ := own_slice hown
      have hln := HLN.out k
      have hxk := HX.out k
      have hT := HT.out
      obtain ⟨⟨s, a2, x2⟩, hC⟩ : ∃ y, cs k = y := ⟨_, rfl⟩
      rw [hC] at hln hxk hT hown hS hr
      simp only at hln hxk hT hown hS hr
      have hxe := xok_fail hxk a2 (scE s)
      have hsc := schemaV_any A k cp s wr hr (by omega)
      have hfl := fun (W : World) (h : RdS W g b a2 x2) => fail_is (scE s) h
      obtain ⟨y, hy⟩ : ∃ y, failS a2 x2 (scE s) = y := ⟨_, rfl⟩
      rw [hy] at hT hfl hxe
      obtain ⟨E, hE⟩ : ∃ E, scE s = E := ⟨_, rfl⟩
      rw [hE] at hsc hfl
      have HT2 := Lib.hid hT; have HSC := Lib.hid hsc; have HFL := Lib.hid hfl; have HXE := Lib.hid hxe; have HLS := Lib.hid hln
      clear hT hsc hfl hxe hxk hln hC hy hE HT HX HLN HNX HZ hr hk hlt
      go_wp2_with fail
      refine HSC.out.mono ?_
      rintro e w2 ⟨rfl, hd2⟩
      have hbd := hd2.below (Below.refl wr.heap.size wr)
      have hown2 := own_below hown hbd
      have hS2 := hS.next hbd
      have hG2 := only_below hG hbd
      clear hown hS hG hd2 hbd HSC
      go_wp2_with fail
      refine (HFL.out _ hS2).mono ?_
      rintro e w3 ⟨rfl, hS3, hG3⟩
      have hown3 := own_before hown2 hG3 (fun r hr => by injection hr with hr; omega)
      have hG03 := only_trans hG2 hG3
      clear hown2 hS2 hG2 hG3 HFL
      go_wp2_with fail
      refine (failed_any (HM.out _ hG03) hS3 HXE.out).mono ?_
      rintro e w4 ⟨rfl, hb4⟩
      have hown4 := own_below hown3 hb4
      have hS4 := hS3.next hb4
      have hG04 := only_below hG03 hb4
      clear hown3 hS3 hG03 hb4 HM HXE
      cases y with
      | none =>
        go_wp2_with fail
        go_ret
        rw [HT2.out]
        first | rw [if_pos rfl] | rw [if_pos trivial]
        exact ⟨_, rfl, by simp only; rw [HLS.out]; exact hown4, hS4, hG04⟩
      | some z =>
        go_wp2_with fail
        go_ret
        rw [HT2.out, if_neg (by simp)]
        exact ⟨_, rfl, own_nil _ _ _ _, hS4, hG04⟩
end Go.Proofs.YtieknhhhcjdbnaaDoor
