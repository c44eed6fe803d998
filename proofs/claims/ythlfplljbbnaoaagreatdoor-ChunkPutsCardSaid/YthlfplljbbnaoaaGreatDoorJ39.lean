/- Texts joined: TxGet CkLitG RnPutGet DlPutGet. -/
import Derived.Test.YthlfplljbbnaoaaGreatDoorJ36
import Derived.Test.YthlfplljbbnaoaaGreatDoorJ38
import Derived.Test.YthlfplljbbnaoaaGreatDoorJ24
import Derived.Test.YthlfplljbbnaoaaGreatDoorJ10
import Derived.Test.YthlfplljbbnaoaaGreatDoorJ14
import Derived.Test.YthlfplljbbnaoaaGreatDoorJ25
import Derived.Test.YthlfplljbbnaoaaGreatDoorRnGet
import Derived.Test.YthlfplljbbnaoaaGreatDoorJ31
import Derived.Test.YthlfplljbbnaoaaGreatDoorJ34
import Derived.Test.YthlfplljbbnaoaaGreatDoorJ35
import Derived.Test.YthlfplljbbnaoaaGreatDoorJ29
/- Contract of package texts' Get: the texts in new memory, or the error's number. -/
namespace Go.Proofs.YthlfplljbbnaoaaGreatDoor
open Go.RowKit
set_option linter.unusedVariables false
set_option linter.unusedSimpArgs false
set_option maxRecDepth 100000

theorem txGet_no (A : Option Addr) (n c : Nat) (b : List Nat) (k : Int) (w : World) (h : k < 0 ∨ 65536 < k) :
    Calls Tryz.prog 56 #[.slice A n c, .int .i64 k] w (NewTE w (txG b k) (txE b k)) := by
  obtain ⟨h1, h2⟩ := txE_bad (b := b) h
  rw [h1, h2]
  have HC := Lib.hid (pcGetS_no A n c k (.func (.func 121) #[] #[]) w h)
  clear h1 h2 h
  go_enter Tryz.func56, Tryz.ntmps56
  go_wp2_with fail
  refine HC.out.mono ?_
  rintro e w1 ⟨rfl, rfl⟩
  go_wp2_with fail
  go_ret2
  exact ⟨.slice none 0 0, rfl, own_nil _ _ _ _, Below.refl _ _⟩
theorem txS_fit {b : List Nat} (hb : ∀ x ∈ b, x < 256) {N : Nat} (hN : N ≤ 65536) (hE : txE b (N : Int) = 0) : (txS b N).1.length = N ∧ ∀ a ∈ (txS b N).1, a < (rdt b N).2.length := by
  obtain ⟨z1, z2, z3⟩ := txE_zero hN hE
  obtain ⟨h1, h2, h3, _⟩ := txG_rest hb hN z2 z3 hE
  have hr : rdt b N = ((tdS b (vv b 0)).1, tdL b (vv b 0)) := by unfold rdt; rw [if_neg z2]
  have hP : (txS b N).1 = unpackS (b.drop ((tdS b (vv b 0)).1.1 + 1)) (N : Int) (blen (vv b 0 - 1) : Int) := by
    unfold txS
    rw [hr]
    simp only
    rw [z3, tdL_length]
    rw [rp_rest b _ N _ h1]
  obtain ⟨_, _, p3, _⟩ := pack_again (b.drop ((tdS b (vv b 0)).1.1 + 1)) (N : Int) (blen (vv b 0 - 1) : Int) (fun x hx => hb x (List.mem_of_mem_drop hx)) h2
  obtain ⟨w1, _⟩ := whE_zero h3
  rw [hP, hr]
  simp only
  rw [tdL_length]
  exact ⟨by rw [p3]; simp, w1⟩
theorem rdt_length {b : List Nat} {N : Nat} (hN : N ≤ 65536) : (rdt b N).2.length ≤ 65536 := by
  unfold rdt
  split
  · simp
  · rename_i h; simp only; rw [tdL_length]; omega
theorem rdt_ok (b : List Nat) (N : Nat) (y : Int × Nat) (h : (rdt b N).1.2 = some y) : y.1 ≠ 0 := by
  unfold rdt at h
  split at h
  · simp only at h
    cases hx : (vst b 1).2 with
    | some z =>
      rw [hx] at h
      injection h with h
      subst h
      exact vst_ok b 1 z hx
    | none =>
      rw [hx, failS_none _ _ (by omega)] at h
      injection h with h
      subst h
      simp
  · exact tdS_ok b _ y h
/-- What readList hands out. -/
def ReadQ (b : List Nat) (N : Nat) (X : List Value) : Prop := ∃ L : List Tx, X = ts L ∧ L.length ≤ N ∧ ((rdt b N).1.2 = none → L = (rdt b N).2)
theorem readLT_any {w : World} {g : Nat} {b : List Nat} (n : Nat) (h : RdS w g b 0 none) (hn : n ≤ 65536) (hmet : Met w) :
    Calls Tryz.prog 121 #[.pointer (some ⟨g, 0, none⟩), .int .i64 (n : Int)] w (ReadLT w g b n) := by
  by_cases hc : n < vv b 0
  · exact readLT_much n h hn hmet hc
  · exact readLT_ok n h hn hmet hc
theorem readQ_fit {b : List Nat} (hb : ∀ x ∈ b, x < 256) {N : Nat} (hN : N ≤ 65536) {X : List Value} (hX : ReadQ b N X) : X.length ≤ 65536 ∧ (endS b (rpS b (rdt b N).1.1 (rdt b N).1.2 N X.length).2.1 (rpS b (rdt b N).1.1 (rdt b N).1.2 N X.length).2.2).1 = txE b (N : Int) ∧
    (txE b (N : Int) = 0 → (rpS b (rdt b N).1.1 (rdt b N).1.2 N X.length).1.length = N ∧ (ts (txG b (N : Int))).length = N ∧ ∀ (k p : Nat), (rpS b (rdt b N).1.1 (rdt b N).1.2 N X.length).1[k]? = some p → ∃ u : ByteArray, X[p]? = some (.string u) ∧ (ts (txG b (N : Int)))[k]? = some (.string u)) := by
  obtain ⟨L, rfl, hL, hQ⟩ := hX
  rw [ts_length]
  cases hx : (rdt b N).1.2 with
  | some y =>
    have hy := rdt_ok b N y hx
    have hE := txE_some hN hy hx
    refine ⟨by omega, ?_, fun h0 => ?_⟩
    · rw [rp_some, hE, endS_some _ _ _ hy]
    · rw [hE] at h0; exact absurd h0 hy
  | none =>
    obtain rfl := hQ hx
    have hS : rpS b (rdt b N).1.1 none N (rdt b N).2.length = txS b N := by unfold txS; rw [hx]
    rw [hS]
    have hE : txE b (N : Int) = (endS b (txS b N).2.1 (txS b N).2.2).1 := by unfold txE; rw [if_neg (by omega), Int.toNat_natCast]
    refine ⟨rdt_length hN, hE.symm, fun h0 => ?_⟩
    have hG : txG b (N : Int) = (txS b N).1.map (fun a => ((rdt b N).2[a]?).getD []) := by unfold txG; rw [if_pos h0, Int.toNat_natCast]
    obtain ⟨f1, f2⟩ := txS_fit hb hN h0
    refine ⟨f1, by rw [ts_length, hG, List.length_map, f1], fun k p hp => ?_⟩
    have hz : (rdt b N).2[p]? = some ((rdt b N).2[p]'(f2 p (List.mem_of_getElem? hp))) := List.getElem?_eq_getElem _
    refine ⟨_, ts_get hz, ts_get ?_⟩
    rw [hG, List.getElem?_map, hp]
    simp [hz]
theorem txGet_ok (A : Option Addr) (n c N : Nat) (b : List Nat) (w : World) (hr : Reads w w.heap.size 1 A n (bs b)) (hb : ∀ x ∈ b, x < 256) (hn : n ≤ 140737488355328) (hN : N ≤ 65536) (hmet : Met w) :
    Calls Tryz.prog 56 #[.slice A n c, .int .i64 (N : Int)] w (NewTE w (txG b (N : Int)) (txE b (N : Int))) := by
  have HC := Lib.hid (pcGetS_any A n c N b (rdt b N).1.1 (rdt b N).1.2 (ReadQ b N) (txE b (N : Int)) (ts (txG b (N : Int))) w hr hb hn hN hmet
    (fun w g hm h => (readLT_any N h hN hm).mono fun e w' ⟨v, X, h1, h2, h3, h4⟩ => ⟨v, ts X, h1, by rw [ts_length]; exact h2, ⟨X, rfl, h3.1, h3.2⟩, h4⟩)
    (fun X hX => readQ_fit hb hN hX)
    (fun h0 => by unfold txG; rw [if_neg h0]; rfl))
  go_enter Tryz.func56, Tryz.ntmps56
  go_wp2_with fail
  refine HC.out.mono ?_
  rintro e w1 ⟨v, rfl, hown, hb1⟩
  go_wp2_with fail
  go_ret2
  exact ⟨v, rfl, by rw [ts_length] at hown; exact hown, hb1⟩
theorem txGet_any (A : Option Addr) (n c : Nat) (k : Int) (b : List Nat) (w : World) (hr : Reads w w.heap.size 1 A n (bs b)) (hb : ∀ x ∈ b, x < 256) (hn : n ≤ 140737488355328) (hmet : Met w) :
    Calls Tryz.prog 56 #[.slice A n c, .int .i64 k] w (NewTE w (txG b k) (txE b k)) := by
  by_cases h : k < 0 ∨ 65536 < k
  · exact txGet_no A n c b k w h
  · obtain ⟨N, rfl⟩ : ∃ N : Nat, k = (N : Int) := ⟨k.toNat, by omega⟩
    exact txGet_ok A n c N b w hr hb hn (by omega) hmet
end Go.Proofs.YthlfplljbbnaoaaGreatDoor

/- Contracts of formOf's function literals that read values by a layer that knows no values. -/
namespace Go.Proofs.YthlfplljbbnaoaaGreatDoor
open Go.RowKit
set_option linter.unusedVariables false
set_option linter.unusedSimpArgs false
set_option maxRecDepth 100000

/-- What a way's reading answers: new values, and an error's number. -/
def CkWay (w : World) (l : List Vl) (f : Int) (e : Ending) (w' : World) : Prop := ∃ v, e = .returned (.tuple #[v, .int .i64 f]) ∧ w'.ownsRow w.heap.size 42 3 v l.length (vs l) ∧ Below w.heap.size w w'
set_option maxHeartbeats 1000000 in
theorem litG_plain (A : Option Addr) (n c g1 g2 : Nat) (k : Int) (b : List Nat) (w : World) (hr : Reads w w.heap.size 1 A n (bs b)) (hb : ∀ x ∈ b, x < 256) (hn : n ≤ 140737488355328) (hmet : Met w) (h1 : FnAt w g1 43) (h2 : FnAt w g2 45) (hl : (getS b k).length ≤ 65536) :
    Calls Tryz.prog 84 #[.slice A n c, .int .i64 k, .pointer (some ⟨g1, 0, none⟩), .pointer (some ⟨g2, 0, none⟩)] w (CkWay w (ofN (getS b k)) (getE b k)) := by
  have hg := plGet_any A n c k b w hr hb hn hmet
  have HL := Lib.hid (ofN_length (getS b k))
  obtain ⟨L, hL⟩ : ∃ L, getS b k = L := ⟨_, rfl⟩
  obtain ⟨f, hf⟩ : ∃ f, getE b k = f := ⟨_, rfl⟩
  rw [hL, hf] at hg
  rw [hL] at hl HL
  rw [hL, hf]
  have HG := Lib.hid hg
  have HEE := Lib.hid fun A1 c1 W (r : Reads W W.heap.size 1 A1 L.length (zs L)) => eachVN_any A1 L.length c1 L W r hl
  have c1 : w.cell? ⟨g1, 0, none⟩ = some (.func (.func 43) #[] #[]) := h1
  have H2 := Lib.hid h2
  clear hg h1 h2 hL hf hl
  go_enter Tryz.func84, Tryz.ntmps84
  go_wp2_with fail
  refine HG.out.mono ?_
  rintro e w1 ⟨v1, rfl, hown1, hb1⟩
  obtain ⟨A1, c1', rfl, _, _, r1⟩ := own_slice hown1
  have c2 : w1.cell? ⟨g2, 0, none⟩ = some (.func (.func 45) #[] #[]) := H2.out.below hb1
  clear hown1
  go_wp2_with fail
  refine (HEE.out A1 c1' w1 r1).mono ?_
  rintro e w2 ⟨v2, rfl, hown2, hb2⟩
  go_wp2_with fail
  go_ret2
  rw [← HL.out] at hown2
  exact ⟨_, rfl, own_base hown2 hb1.size, hb1.trans (hb2.mono hb1.size)⟩
set_option maxHeartbeats 1000000 in
theorem litG_runs (A : Option Addr) (n c g1 g2 : Nat) (k : Int) (b : List Nat) (w : World) (hr : Reads w w.heap.size 1 A n (bs b)) (hb : ∀ x ∈ b, x < 256) (hn : n ≤ 140737488355328) (hmet : Met w) (h1 : FnAt w g1 47) (h2 : FnAt w g2 45) (hl : (rS b k).length ≤ 65536) :
    Calls Tryz.prog 84 #[.slice A n c, .int .i64 k, .pointer (some ⟨g1, 0, none⟩), .pointer (some ⟨g2, 0, none⟩)] w (CkWay w (ofN (rS b k)) (rE b k)) := by
  have hg := rnGet_any A n c k b w hr hb hn hmet
  have HL := Lib.hid (ofN_length (rS b k))
  obtain ⟨L, hL⟩ : ∃ L, rS b k = L := ⟨_, rfl⟩
  obtain ⟨f, hf⟩ : ∃ f, rE b k = f := ⟨_, rfl⟩
  rw [hL, hf] at hg
  rw [hL] at hl HL
  rw [hL, hf]
  have HG := Lib.hid hg
  have HEE := Lib.hid fun A1 c1 W (r : Reads W W.heap.size 1 A1 L.length (zs L)) => eachVN_any A1 L.length c1 L W r hl
  have c1 : w.cell? ⟨g1, 0, none⟩ = some (.func (.func 47) #[] #[]) := h1
  have H2 := Lib.hid h2
  clear hg h1 h2 hL hf hl
  go_enter Tryz.func84, Tryz.ntmps84
  go_wp2_with fail
  refine HG.out.mono ?_
  rintro e w1 ⟨v1, rfl, hown1, hb1⟩
  obtain ⟨A1, c1', rfl, _, _, r1⟩ := own_slice hown1
  have c2 : w1.cell? ⟨g2, 0, none⟩ = some (.func (.func 45) #[] #[]) := H2.out.below hb1
  clear hown1
  go_wp2_with fail
  refine (HEE.out A1 c1' w1 r1).mono ?_
  rintro e w2 ⟨v2, rfl, hown2, hb2⟩
  go_wp2_with fail
  go_ret2
  rw [← HL.out] at hown2
  exact ⟨_, rfl, own_base hown2 hb1.size, hb1.trans (hb2.mono hb1.size)⟩
set_option maxHeartbeats 1000000 in
theorem litG_delta (A : Option Addr) (n c g1 g2 : Nat) (k : Int) (b : List Nat) (w : World) (hr : Reads w w.heap.size 1 A n (bs b)) (hb : ∀ x ∈ b, x < 256) (hn : n ≤ 140737488355328) (hmet : Met w) (h1 : FnAt w g1 49) (h2 : FnAt w g2 45) (hl : (dG b k).length ≤ 65536) :
    Calls Tryz.prog 84 #[.slice A n c, .int .i64 k, .pointer (some ⟨g1, 0, none⟩), .pointer (some ⟨g2, 0, none⟩)] w (CkWay w (ofN (dG b k)) (dE b k)) := by
  have hg := dlGet_any A n c k b w hr hb hn hmet
  have HL := Lib.hid (ofN_length (dG b k))
  obtain ⟨L, hL⟩ : ∃ L, dG b k = L := ⟨_, rfl⟩
  obtain ⟨f, hf⟩ : ∃ f, dE b k = f := ⟨_, rfl⟩
  rw [hL, hf] at hg
  rw [hL] at hl HL
  rw [hL, hf]
  have HG := Lib.hid hg
  have HEE := Lib.hid fun A1 c1 W (r : Reads W W.heap.size 1 A1 L.length (zs L)) => eachVN_any A1 L.length c1 L W r hl
  have c1 : w.cell? ⟨g1, 0, none⟩ = some (.func (.func 49) #[] #[]) := h1
  have H2 := Lib.hid h2
  clear hg h1 h2 hL hf hl
  go_enter Tryz.func84, Tryz.ntmps84
  go_wp2_with fail
  refine HG.out.mono ?_
  rintro e w1 ⟨v1, rfl, hown1, hb1⟩
  obtain ⟨A1, c1', rfl, _, _, r1⟩ := own_slice hown1
  have c2 : w1.cell? ⟨g2, 0, none⟩ = some (.func (.func 45) #[] #[]) := H2.out.below hb1
  clear hown1
  go_wp2_with fail
  refine (HEE.out A1 c1' w1 r1).mono ?_
  rintro e w2 ⟨v2, rfl, hown2, hb2⟩
  go_wp2_with fail
  go_ret2
  rw [← HL.out] at hown2
  exact ⟨_, rfl, own_base hown2 hb1.size, hb1.trans (hb2.mono hb1.size)⟩
set_option maxHeartbeats 1000000 in
theorem litG_dict (A : Option Addr) (n c g1 g2 : Nat) (k : Int) (b : List Nat) (w : World) (hr : Reads w w.heap.size 1 A n (bs b)) (hb : ∀ x ∈ b, x < 256) (hn : n ≤ 140737488355328) (hmet : Met w) (h1 : FnAt w g1 51) (h2 : FnAt w g2 45) (hl : (dcG b k).length ≤ 65536) :
    Calls Tryz.prog 84 #[.slice A n c, .int .i64 k, .pointer (some ⟨g1, 0, none⟩), .pointer (some ⟨g2, 0, none⟩)] w (CkWay w (ofN (dcG b k)) (dcE b k)) := by
  have hg := dcGet_any A n c k b w hr hb hn hmet
  have HL := Lib.hid (ofN_length (dcG b k))
  obtain ⟨L, hL⟩ : ∃ L, dcG b k = L := ⟨_, rfl⟩
  obtain ⟨f, hf⟩ : ∃ f, dcE b k = f := ⟨_, rfl⟩
  rw [hL, hf] at hg
  rw [hL] at hl HL
  rw [hL, hf]
  have HG := Lib.hid hg
  have HEE := Lib.hid fun A1 c1 W (r : Reads W W.heap.size 1 A1 L.length (zs L)) => eachVN_any A1 L.length c1 L W r hl
  have c1 : w.cell? ⟨g1, 0, none⟩ = some (.func (.func 51) #[] #[]) := h1
  have H2 := Lib.hid h2
  clear hg h1 h2 hL hf hl
  go_enter Tryz.func84, Tryz.ntmps84
  go_wp2_with fail
  refine HG.out.mono ?_
  rintro e w1 ⟨v1, rfl, hown1, hb1⟩
  obtain ⟨A1, c1', rfl, _, _, r1⟩ := own_slice hown1
  have c2 : w1.cell? ⟨g2, 0, none⟩ = some (.func (.func 45) #[] #[]) := H2.out.below hb1
  clear hown1
  go_wp2_with fail
  refine (HEE.out A1 c1' w1 r1).mono ?_
  rintro e w2 ⟨v2, rfl, hown2, hb2⟩
  go_wp2_with fail
  go_ret2
  rw [← HL.out] at hown2
  exact ⟨_, rfl, own_base hown2 hb1.size, hb1.trans (hb2.mono hb1.size)⟩
set_option maxHeartbeats 1000000 in
theorem litG_fore (A : Option Addr) (n c g1 g2 : Nat) (k : Int) (b : List Nat) (w : World) (hr : Reads w w.heap.size 1 A n (bs b)) (hb : ∀ x ∈ b, x < 256) (hn : n ≤ 140737488355328) (hmet : Met w) (h1 : FnAt w g1 53) (h2 : FnAt w g2 45) (hl : (fG b k).length ≤ 65536) :
    Calls Tryz.prog 84 #[.slice A n c, .int .i64 k, .pointer (some ⟨g1, 0, none⟩), .pointer (some ⟨g2, 0, none⟩)] w (CkWay w (ofN (fG b k)) (fE b k)) := by
  have hg := foGet_any A n c k b w hr hb hn hmet
  have HL := Lib.hid (ofN_length (fG b k))
  obtain ⟨L, hL⟩ : ∃ L, fG b k = L := ⟨_, rfl⟩
  obtain ⟨f, hf⟩ : ∃ f, fE b k = f := ⟨_, rfl⟩
  rw [hL, hf] at hg
  rw [hL] at hl HL
  rw [hL, hf]
  have HG := Lib.hid hg
  have HEE := Lib.hid fun A1 c1 W (r : Reads W W.heap.size 1 A1 L.length (zs L)) => eachVN_any A1 L.length c1 L W r hl
  have c1 : w.cell? ⟨g1, 0, none⟩ = some (.func (.func 53) #[] #[]) := h1
  have H2 := Lib.hid h2
  clear hg h1 h2 hL hf hl
  go_enter Tryz.func84, Tryz.ntmps84
  go_wp2_with fail
  refine HG.out.mono ?_
  rintro e w1 ⟨v1, rfl, hown1, hb1⟩
  obtain ⟨A1, c1', rfl, _, _, r1⟩ := own_slice hown1
  have c2 : w1.cell? ⟨g2, 0, none⟩ = some (.func (.func 45) #[] #[]) := H2.out.below hb1
  clear hown1
  go_wp2_with fail
  refine (HEE.out A1 c1' w1 r1).mono ?_
  rintro e w2 ⟨v2, rfl, hown2, hb2⟩
  go_wp2_with fail
  go_ret2
  rw [← HL.out] at hown2
  exact ⟨_, rfl, own_base hown2 hb1.size, hb1.trans (hb2.mono hb1.size)⟩
set_option maxHeartbeats 1000000 in
theorem litG_texts (A : Option Addr) (n c g1 g2 : Nat) (k : Int) (b : List Nat) (w : World) (hr : Reads w w.heap.size 1 A n (bs b)) (hb : ∀ x ∈ b, x < 256) (hn : n ≤ 140737488355328) (hmet : Met w) (h1 : FnAt w g1 56) (h2 : FnAt w g2 58) (hl : (txG b k).length ≤ 65536) :
    Calls Tryz.prog 111 #[.slice A n c, .int .i64 k, .pointer (some ⟨g1, 0, none⟩), .pointer (some ⟨g2, 0, none⟩)] w (CkWay w (ofT (txG b k)) (txE b k)) := by
  have hg := txGet_any A n c k b w hr hb hn hmet
  have HL := Lib.hid (ofT_length (txG b k))
  obtain ⟨L, hL⟩ : ∃ L, txG b k = L := ⟨_, rfl⟩
  obtain ⟨f, hf⟩ : ∃ f, txE b k = f := ⟨_, rfl⟩
  rw [hL, hf] at hg
  rw [hL] at hl HL
  rw [hL, hf]
  have HG := Lib.hid hg
  have HEE := Lib.hid fun A1 c1 W (r : Reads W W.heap.size 1 A1 L.length (ts L)) => eachVT_any A1 L.length c1 L W r hl
  have c1 : w.cell? ⟨g1, 0, none⟩ = some (.func (.func 56) #[] #[]) := h1
  have H2 := Lib.hid h2
  clear hg h1 h2 hL hf hl
  go_enter Tryz.func111, Tryz.ntmps111
  go_wp2_with fail
  refine HG.out.mono ?_
  rintro e w1 ⟨v1, rfl, hown1, hb1⟩
  obtain ⟨A1, c1', rfl, _, _, r1⟩ := own_slice hown1
  have c2 : w1.cell? ⟨g2, 0, none⟩ = some (.func (.func 58) #[] #[]) := H2.out.below hb1
  clear hown1
  go_wp2_with fail
  refine (HEE.out A1 c1' w1 r1).mono ?_
  rintro e w2 ⟨v2, rfl, hown2, hb2⟩
  go_wp2_with fail
  go_ret2
  rw [← HL.out] at hown2
  exact ⟨_, rfl, own_base hown2 hb1.size, hb1.trans (hb2.mono hb1.size)⟩
end Go.Proofs.YthlfplljbbnaoaaGreatDoor

/- Plain facts on runs: what is put is read as it was. No program, no condition. -/
namespace Go.Proofs.YthlfplljbbnaoaaGreatDoor
open Go.RowKit
set_option linter.unusedVariables false
set_option linter.unusedSimpArgs false
set_option maxRecDepth 100000

theorem ilv_at : ∀ {r : List (Int × Nat)} {k : Nat} {x : Int} {m : Nat}, r[k]? = some (x, m) → (ilv r)[2 * k]? = some (zagI ((m - 1 : Nat) : Int)) ∧ (ilv r)[2 * k + 1]? = some x
  | p :: r, 0, x, m, h => by
    simp at h
    subst h
    exact ⟨rfl, rfl⟩
  | p :: r, k + 1, x, m, h => by
    have ih := ilv_at (r := r) (k := k) (by simpa using h)
    rw [show 2 * (k + 1) = 2 * k + 2 by omega]
    exact ⟨by simpa [ilv] using ih.1, by simpa [ilv] using ih.2⟩
theorem ilv_in {l : List Int} (hl : ∀ z ∈ l, In64 z) (hn : l.length ≤ 65536) : ∀ z ∈ ilv (runs l), In64 z := by
  intro z hz
  obtain ⟨⟨x, m⟩, hp, hz⟩ := List.mem_flatMap.1 hz
  obtain ⟨k, hk⟩ := List.mem_iff_getElem?.1 hp
  obtain ⟨h1, h2, h3, _⟩ := run_at hk
  simp at hz
  rcases hz with rfl | rfl
  · exact zagI_in (by omega)
  · exact hl _ (List.mem_of_getElem? (h3 0 h1))
section
variable {l : List Int} (hl : ∀ z ∈ l, In64 z) (hn : l.length ≤ 65536)
include hl hn
theorem put_how {k : Nat} {x : Int} {m : Nat} (h : (runs l)[k]? = some (x, m)) : how (rf (runs l)) k = m - 1 ∧ num (rf (runs l)) k = x := by
  have hk : k < (runs l).length := (List.getElem?_eq_some_iff.1 h).1
  have hil := ilv_length (runs l)
  obtain ⟨_, e2⟩ := vst_put (ilv (runs l)) [] (ilv_in hl hn) (2 * k + 2) (by omega)
  rw [List.append_nil] at e2
  obtain ⟨a1, a2⟩ := ilv_at h
  have g1 := getL_at (pl (ilv (runs l))) (2 * k + 2) (2 * k) (by omega)
  have g2 := getL_at (pl (ilv (runs l))) (2 * k + 2) (2 * k + 1) (by omega)
  rw [e2, List.getElem?_take, if_pos (by omega)] at g1 g2
  rw [a1] at g1
  rw [a2] at g2
  injection g1 with g1
  injection g2 with g2
  refine ⟨?_, g2.symm⟩
  have := congrArg zg g1
  rw [zg_zagI, zg_zagI] at this
  exact this.symm
theorem put_rr : ∀ k, k ≤ rc l → rr (rf (runs l)) k = (runs l).take k
  | 0, _ => by simp [rr]
  | k + 1, h => by
    have hk : k < (runs l).length := h
    obtain ⟨x, m, hat⟩ : ∃ x m, (runs l)[k]? = some (x, m) := ⟨_, _, List.getElem?_eq_getElem hk⟩
    obtain ⟨h1, h2⟩ := put_how hl hn hat
    have h3 := (run_at hat).1
    rw [rr_succ, put_rr k (by omega), h1, h2, List.take_add_one, hat, show m - 1 + 1 = m by omega]
    rfl
theorem put_tot {k : Nat} (h : k ≤ rc l) : tot (rf (runs l)) k = pos (runs l) k := by unfold tot pos; rw [put_rr hl hn k h]
theorem put_go {k : Nat} (h : k < rc l) : rGo (rf (runs l)) l.length k := by
  have hk : k < (runs l).length := h
  have hil := ilv_length (runs l)
  obtain ⟨x, m, hat⟩ : ∃ x m, (runs l)[k]? = some (x, m) := ⟨_, _, List.getElem?_eq_getElem hk⟩
  obtain ⟨h1, h2⟩ := put_how hl hn hat
  obtain ⟨r1, r2, _, _⟩ := run_at hat
  have ht := put_tot hl hn (Nat.le_of_lt h)
  refine go_of ?_ ?_ ?_ ?_
  · rw [ht]; omega
  · have e1 := (vst_put (ilv (runs l)) [] (ilv_in hl hn) (2 * k + 2) (by omega)).1
    rw [List.append_nil] at e1
    show (vst (pl (ilv (runs l))) (2 * k + 2)).2 = none
    rw [e1]
  · rw [ht, h1]; omega
  · rintro ⟨h3, h4⟩
    obtain ⟨j, rfl⟩ : ∃ j, k = j + 1 := ⟨k - 1, by omega⟩
    obtain ⟨y, q, hay⟩ : ∃ y q, (runs l)[j]? = some (y, q) := ⟨_, _, List.getElem?_eq_getElem (by omega)⟩
    rw [ahdN_succ, h2, (put_how hl hn hay).2] at h4
    have := (good_at (good_runs l) hay).2
    rw [List.head?_drop, hat] at this
    exact this (by rw [h4]; rfl)
theorem put_K : rK (rf (runs l)) l.length = rc l := by
  have h1 := rK_end (rf (runs l)) l.length
  rcases Nat.lt_trichotomy (rK (rf (runs l)) l.length) (rc l) with h | h | h
  · exact absurd (put_go hl hn h) h1
  · exact h
  · have := (go_is (rK_go h)).1
    rw [put_tot hl hn (Nat.le_refl _), pos_all] at this
    omega
/-- What is put is read as it was. -/
theorem rn_get_put : rE (rf (runs l)) (l.length : Int) = 0 ∧ rS (rf (runs l)) (l.length : Int) = l := by
  have hil := ilv_length (runs l)
  have hrc : (runs l).length = rc l := rfl
  have hE : rE (rf (runs l)) (l.length : Int) = 0 := by
    unfold rE
    rw [if_neg (by omega), Int.toNat_natCast]
    unfold rEnd
    rw [put_K hl hn, put_tot hl hn (Nat.le_refl _), pos_all, if_neg (by omega), endS_none, if_neg]
    have e1 := (vst_put (ilv (runs l)) [] (ilv_in hl hn) (2 * rc l) (by omega)).1
    rw [List.append_nil] at e1
    show ¬ (vst (pl (ilv (runs l))) (2 * rc l)).1 < (pl (ilv (runs l))).length
    rw [e1, List.take_of_length_le (by omega)]
    simp
  refine ⟨hE, ?_⟩
  unfold rS
  rw [if_pos hE, Int.toNat_natCast, put_K hl hn, put_rr hl hn _ (Nat.le_refl _), List.take_of_length_le (by omega), expd_runs]
end
theorem rf_byte {l : List Int} (hl : ∀ z ∈ l, In64 z) (hn : l.length ≤ 65536) : ∀ x ∈ rf (runs l), x < 256 := pl_byte _ (ilv_in hl hn)
end Go.Proofs.YthlfplljbbnaoaaGreatDoor

/- Plain facts: what is put in the form of steps is read as it was; what is read is put as it was. -/
namespace Go.Proofs.YthlfplljbbnaoaaGreatDoor
open Go.RowKit
set_option linter.unusedVariables false
set_option linter.unusedSimpArgs false
set_option maxRecDepth 100000

theorem zag_zg_map (l : List Int) (h : ∀ z ∈ l, In64 z) : (l.map zg).map (fun v : Nat => zagI (v : Int)) = l := by
  rw [List.map_map]
  conv => rhs; rw [← List.map_id l]
  exact List.map_congr_left fun z hz => zagI_zg (h z hz)
theorem zg_zag_map (l : List Nat) : (l.map (fun v : Nat => zagI (v : Int))).map zg = l := by
  rw [List.map_map]
  conv => rhs; rw [← List.map_id l]
  exact List.map_congr_left fun v _ => zg_zagI v
theorem stp_head (z : Int) (l : List Int) (hz : In64 z) : stp 0 (z :: l) = z :: stp z l := by
  simp only [stp]; rw [show z - 0 = z by omega, w64_id hz]
theorem dl_get (l : List Int) (hl : ∀ z ∈ l, In64 z) (hn : l.length ≤ 65536) : dE (dl l) (l.length : Int) = 0 ∧ dG (dl l) (l.length : Int) = l := by
  match l, hl, hn with
  | [], _, _ =>
    have h : dE (dl []) (([] : List Int).length : Int) = 0 := by
      rw [dl_nil]; exact dE_zero []
    exact ⟨h, by unfold dG; rw [if_pos h]; rfl⟩
  | [z], hl, _ =>
    have hz := hl z (by simp)
    have hd : dl [z] = vb (zg z) := by simp [dl, dl1, dl2, dl3]
    obtain ⟨h1, h2⟩ := first_read z hz []
    rw [List.append_nil] at h1 h2
    have h : dE (dl [z]) (([z] : List Int).length : Int) = 0 := by
      rw [hd]
      show dE (vb (zg z)) 1 = 0
      rw [dE_one _ (by rw [h1]), h1, if_neg (by omega)]
    refine ⟨h, ?_⟩
    unfold dG
    rw [if_pos h, hd]
    show sms 0 [zagI (vv (vb (zg z)) 0 : Int)] = [z]
    rw [h2]
    simp only [sms]
    rw [show 0 + z = z by omega, w64_id hz]
  | z :: y :: r, hl, hn =>
    have hz := hl z (by simp)
    obtain ⟨l, hle⟩ : ∃ l, l = z :: y :: r := ⟨_, rfl⟩
    have hlen : l.length = r.length + 2 := by rw [hle]; simp
    have hs : stp 0 l = z :: (stp 0 l).drop 1 := by rw [hle, stp_head z _ hz]; rfl
    have hZl : (zb l).length = l.length - 1 := zb_length l
    have hZ64 := zb_lt l
    have hK := wd_zb l
    have hd : dl l = vb (zg z) ++ (wd (zb l) :: packB (wd (zb l)) (zb l)) := by
      unfold dl dl2 dl3
      rw [if_neg (by omega), if_neg (by omega), hle, dl1_cons, List.append_assoc]
      rfl
    obtain ⟨h1, h2⟩ := first_read z hz (wd (zb l) :: packB (wd (zb l)) (zb l))
    rw [← hd] at h1 h2
    have hb := dl_byte l (by rw [hle]; exact hl)
    have hat : (dl l)[(vb (zg z)).length]? = some (wd (zb l)) := by rw [hd]; simp
    have hdrop : (dl l).drop ((vb (zg z)).length + 1) = packB (wd (zb l)) (zb l) := by rw [hd]; simp
    have hn1 : ((l.length : Int) - 1) = ((zb l).length : Int) := by rw [hZl]; omega
    obtain ⟨h3, h4⟩ := unpackE_pack (zb l) (wd (zb l)) (by rw [hZl, hle]; omega) hK (Nat.le_refl _)
    have hR : rbE (dl l) (vb (zg z)).length ((l.length : Int) - 1) = 0 := by
      unfold rbE
      rw [hat]
      simp only
      rw [if_neg (by omega), hdrop, hn1, h3, if_pos rfl, h4, if_pos rfl]
    have h : dE (dl l) (l.length : Int) = 0 := by
      rw [dE_more (dl l) hb l.length (by rw [hle] at hn1 ⊢; simp only [List.length_cons] at hn ⊢; omega) (by rw [h1]), h1]
      exact hR
    have hG : dG (dl l) (l.length : Int) = l := by
      unfold dG
      rw [if_pos h, Int.toNat_natCast]
      unfold dL
      rw [if_neg (by omega), if_neg (by omega), h1, h2]
      obtain ⟨v, e1, _, _, _, e5⟩ := rb_take (dl l) (vb (zg z)).length ((l.length : Int) - 1) hR
      rw [hat] at e1
      injection e1 with e1
      subst e1
      simp only
      rw [e5, hdrop, hn1, h4]
      unfold zb
      rw [zag_zg_map _ (fun x hx => stp_in l 0 x (List.mem_of_mem_drop hx)), ← hs]
      exact sms_stp l (by rw [hle]; exact hl) 0
    rw [← hle]
    exact ⟨h, hG⟩
/-- What is read is put as it was. -/
theorem get_dl (b : List Nat) (hb : ∀ x ∈ b, x < 256) (k : Int) (h : dE b k = 0) : 0 ≤ k ∧ k ≤ 65536 ∧ dl (dG b k) = b ∧ (dG b k).length = k.toNat ∧ ∀ z ∈ dG b k, In64 z := by
  have hk : 0 ≤ k ∧ k ≤ 65536 := by
    unfold dE at h
    by_cases hk : k < 0 ∨ 65536 < k
    · rw [if_pos hk] at h; omega
    · omega
  obtain ⟨N, rfl⟩ : ∃ N : Nat, k = (N : Int) := ⟨k.toNat, by omega⟩
  have hG : dG b (N : Int) = sms 0 (dL b N) := by unfold dG; rw [if_pos h, Int.toNat_natCast]
  refine ⟨hk.1, hk.2, ?_, ?_, by rw [hG]; exact sms_in _ 0⟩
  all_goals
    rcases Nat.eq_zero_or_pos N with h0 | h0
    · subst h0
      have hl : b = [] := by
        have e := dE_zero b
        rw [show ((0 : Nat) : Int) = 0 from rfl] at h
        rw [h] at e
        by_cases h1 : 0 < b.length
        · rw [if_pos h1] at e; omega
        · exact List.eq_nil_of_length_eq_zero (by omega)
      first
        | (rw [hG, hl]; rfl)
        | (rw [hG]; rfl)
    · have hx : (vst b 1).2 = none := by
        cases hx : (vst b 1).2 with
        | none => rfl
        | some y =>
          rw [dE_err b N y (by omega) hx] at h
          exact absurd h (vst_ok b 1 y hx)
      have hpre := put_prefix b hb 1 hx
      have hg1 : getL b 1 = [zagI (vv b 0 : Int)] := by simp [getL]
      have hin0 := zagI_in (vv_lt hb 0)
      rw [hg1, pl_one, zg_zagI] at hpre
      obtain ⟨hp1, hp2⟩ := hpre
      by_cases h1 : N = 1
      · subst h1
        have hL : dL b 1 = [zagI (vv b 0 : Int)] := rfl
        have hs : sms 0 [zagI (vv b 0 : Int)] = [zagI (vv b 0 : Int)] := by
          simp only [sms]; rw [show (0 : Int) + zagI (vv b 0 : Int) = zagI (vv b 0 : Int) by omega, w64_id hin0]
        rw [hG, hL, hs]
        have e := dE_one b hx
        rw [show ((1 : Nat) : Int) = 1 from rfl] at h
        rw [h] at e
        first
          | (have hd : dl [zagI (vv b 0 : Int)] = vb (vv b 0) := by
               simp [dl, dl1, dl2, dl3, zg_zagI]
             rw [hd, hp2]
             by_cases h2 : (vst b 1).1 < b.length
             · rw [if_pos h2] at e; omega
             · exact List.take_of_length_le (by omega))
          | rfl
      · rw [dE_more b hb N (by omega) hx] at h
        obtain ⟨v, e1, e2, e3, e4, e5⟩ := rb_take b (vst b 1).1 ((N : Int) - 1) h
        have hpa := pack_again (b.drop ((vst b 1).1 + 1)) ((N : Int) - 1) v (fun x hx => hb x (List.mem_of_mem_drop hx)) e3
        obtain ⟨p1, p2, p3, p4, _⟩ := hpa
        rw [← hx] at e5
        have hL : dL b N = zagI (vv b 0 : Int) :: (unpackS (b.drop ((vst b 1).1 + 1)) ((N : Int) - 1) v).map fun v : Nat => zagI (v : Int) := by
          unfold dL; rw [if_neg (by omega), if_neg h1, e5]
        obtain ⟨L, hLd⟩ : ∃ L, L = unpackS (b.drop ((vst b 1).1 + 1)) ((N : Int) - 1) v := ⟨_, rfl⟩
        rw [← hLd] at hL p1 p2 p3 p4 e4
        have hin : ∀ z ∈ dL b N, In64 z := dL_in hb N
        have hst := stp_sms (dL b N) hin 0
        have hlen : (dL b N).length = N := by rw [hL, List.length_cons, List.length_map, p3]; omega
        have hgl : (sms 0 (dL b N)).length = N := by rw [sms_length, hlen]
        rw [hG]
        first
          | (have hzb : zb (sms 0 (dL b N)) = L := by
               unfold zb; rw [hst, hL]; simp only [List.drop_succ_cons, List.drop_zero]; exact zg_zag_map L
             have hps : packB v L = b.drop ((vst b 1).1 + 1) := by
               rw [← p2]; unfold packS; rw [if_pos p1]; rfl
             have hh : dl1 (sms 0 (dL b N)) = vb (vv b 0) := by
               rw [hL]; simp only [sms, dl1]
               rw [show (0 : Int) + zagI (vv b 0 : Int) = zagI (vv b 0 : Int) by omega, w64_id hin0, zg_zagI]
             unfold dl dl2 dl3
             rw [if_neg (by omega), if_neg (by omega), hzb, e4, hh, hp2, hps, List.append_assoc]
             obtain ⟨hl, hv⟩ := List.getElem?_eq_some_iff.1 e1
             rw [List.singleton_append, ← hv, ← List.drop_eq_getElem_cons hl, List.take_append_drop])
          | (rw [hgl]; rfl)
end Go.Proofs.YthlfplljbbnaoaaGreatDoor
