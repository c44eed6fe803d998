import Derived.Test.YticanhidahkhfaaGreatDoorJ14
import Derived.Test.YticanhidahkhfaaGreatDoorJ18
import Derived.Test.YticanhidahkhfaaGreatDoorJ20
import Derived.Test.YticanhidahkhfaaGreatDoorJ31
import Derived.Test.YticanhidahkhfaaGreatDoorJ32
import Derived.Test.YticanhidahkhfaaGreatDoorJ9
import Derived.Test.YticanhidahkhfaaGreatDoorJ6
import Derived.Test.YticanhidahkhfaaGreatDoorJ3
import Derived.Test.YticanhidahkhfaaGreatDoorJ10
import Derived.Test.YticanhidahkhfaaGreatDoorJ12
import Derived.Test.YticanhidahkhfaaGreatDoorJ8
namespace Go.Proofs.YticanhidahkhfaaGreatDoor
open Go.RowKit
set_option linter.unusedVariables false
set_option linter.unusedSimpArgs false
set_option maxRecDepth 100000
def PutsAs (f : FuncId) (w : World) (v : Value) (kd : Int) (way : Nat) : Prop :=
  ∃ g1 g2, v = .func (.func f) #[] #[.pointer (some ⟨g1, 0, none⟩), .pointer (some ⟨g2, 0, none⟩)] ∧
    ∀ (A : Option Addr) (n c : Nat) (o : List Vl) (W : World), Below w.heap.size w W → Reads W W.heap.size 3 A n (vs o) → n ≤ 65536 → (∀ v ∈ o, v.1 = kd) → (∀ v ∈ o, In64 v.2.1) → (∀ v ∈ o, v.2.2.length ≤ 65536) →
      Calls Tryz.prog f #[.slice A n c, .pointer (some ⟨g1, 0, none⟩), .pointer (some ⟨g2, 0, none⟩)] W (NewE W (frm way o) 0)
def GetsAs (f : FuncId) (w : World) (v : Value) (way : Nat) : Prop :=
  ∃ g1 g2, v = .func (.func f) #[] #[.pointer (some ⟨g1, 0, none⟩), .pointer (some ⟨g2, 0, none⟩)] ∧
    ∀ (A : Option Addr) (n c : Nat) (k : Int) (b : List Nat) (W : World), Below w.heap.size w W → Reads W W.heap.size 1 A n (bs b) → (∀ x ∈ b, x < 256) → n ≤ 140737488355328 → Met W →
      Calls Tryz.prog f #[.slice A n c, .int .i64 k, .pointer (some ⟨g1, 0, none⟩), .pointer (some ⟨g2, 0, none⟩)] W (CkWay W (ofV way b k) (wyE way b k))
theorem nums_in {o : List Vl} (h : ∀ v ∈ o, In64 v.2.1) : ∀ z ∈ nums o, In64 z := by
  intro z hz
  obtain ⟨v, hv, rfl⟩ := List.mem_map.1 hz
  exact h v hv
theorem txts_short {o : List Vl} {q : Nat} (h : ∀ v ∈ o, v.2.2.length ≤ q) : ∀ s ∈ txts o, s.length ≤ q := by
  intro z hz
  obtain ⟨v, hv, rfl⟩ := List.mem_map.1 hz
  exact h v hv
theorem wyI_len {k : Nat} (hk : k < 5) {b : List Nat} (hb : ∀ x ∈ b, x < 256) (m : Int) : (wyI k b m).length ≤ 65536 := by
  by_cases h : wyE k b m = 0
  · obtain ⟨h1, h2, _, _, h5, _⟩ := wy_back (kd := 1) (by unfold ofW; simp; omega) hb h
    have := (h5 rfl).1
    omega
  · have hc : k = 0 ∨ k = 1 ∨ k = 2 ∨ k = 3 ∨ k = 4 := by omega
    have : wyI k b m = [] := by
      rcases hc with rfl | rfl | rfl | rfl | rfl
      · exact if_neg h
      · exact if_neg h
      · exact if_neg h
      · exact if_neg h
      · exact if_neg h
    rw [this]; simp
theorem wyT_len {b : List Nat} (hb : ∀ x ∈ b, x < 256) (m : Int) : (wyT 5 b m).length ≤ 65536 := by
  by_cases h : wyE 5 b m = 0
  · obtain ⟨h1, h2, _, _, _, h6⟩ := wy_back (kd := 2) (by unfold ofW; simp) hb h
    have := (h6 rfl).1
    omega
  · have : wyT 5 b m = [] := if_neg h
    rw [this]; simp
theorem tab_putN {w : World} {a b : Nat → Value} (h : Tab w a b) {k : Nat} (hk : k < 5) : PutsAs 201 w (a k) 1 k := by
  have hc : k = 0 ∨ k = 1 ∨ k = 2 ∨ k = 3 ∨ k = 4 := by omega
  rcases hc with rfl | rfl | rfl | rfl | rfl
  · obtain ⟨g1, g2, hv, h1, h2⟩ := h.put 0 (by omega)
    refine ⟨g1, g2, hv, fun A n c o W hb hr hn hk hi hs => ?_⟩
    have := lit_plain A n c g1 g2 o W hr hn (nums_in hi) (h1.below hb) (h2.below hb)
    rwa [nums_ints hk] at this
  · obtain ⟨g1, g2, hv, h1, h2⟩ := h.put 1 (by omega)
    refine ⟨g1, g2, hv, fun A n c o W hb hr hn hk hi hs => ?_⟩
    have := lit_runs A n c g1 g2 o W hr hn (nums_in hi) (h1.below hb) (h2.below hb)
    rwa [nums_ints hk] at this
  · obtain ⟨g1, g2, hv, h1, h2⟩ := h.put 2 (by omega)
    refine ⟨g1, g2, hv, fun A n c o W hb hr hn hk hi hs => ?_⟩
    have := lit_delta A n c g1 g2 o W hr hn (nums_in hi) (h1.below hb) (h2.below hb)
    rwa [nums_ints hk] at this
  · obtain ⟨g1, g2, hv, h1, h2⟩ := h.put 3 (by omega)
    refine ⟨g1, g2, hv, fun A n c o W hb hr hn hk hi hs => ?_⟩
    have := lit_dict A n c g1 g2 o W hr hn (nums_in hi) (h1.below hb) (h2.below hb)
    rwa [nums_ints hk] at this
  · obtain ⟨g1, g2, hv, h1, h2⟩ := h.put 4 (by omega)
    refine ⟨g1, g2, hv, fun A n c o W hb hr hn hk hi hs => ?_⟩
    have := lit_fore A n c g1 g2 o W hr hn (nums_in hi) (h1.below hb) (h2.below hb)
    rwa [nums_ints hk] at this
theorem tab_putT {w : World} {a b : Nat → Value} (h : Tab w a b) : PutsAs 224 w (a 5) 2 5 := by
  obtain ⟨g1, g2, hv, h1, h2⟩ := h.put 5 (by omega)
  refine ⟨g1, g2, hv, fun A n c o W hb hr hn hk hi hs => ?_⟩
  have := lit_texts A n c g1 g2 o W hr hn (txts_short hs) (h1.below hb) (h2.below hb)
  rwa [txts_wrds hk] at this
theorem tab_getN {w : World} {a b : Nat → Value} (h : Tab w a b) {k : Nat} (hk : k < 5) : GetsAs 203 w (b k) k := by
  have hc : k = 0 ∨ k = 1 ∨ k = 2 ∨ k = 3 ∨ k = 4 := by omega
  rcases hc with rfl | rfl | rfl | rfl | rfl
  · obtain ⟨g1, g2, hv, h1, h2⟩ := h.get 0 (by omega)
    exact ⟨g1, g2, hv, fun A n c k b W hb hr hx hn hm => litG_plain A n c g1 g2 k b W hr hx hn hm (h1.below hb) (h2.below hb) (wyI_len (k := 0) (by omega) hx k)⟩
  · obtain ⟨g1, g2, hv, h1, h2⟩ := h.get 1 (by omega)
    exact ⟨g1, g2, hv, fun A n c k b W hb hr hx hn hm => litG_runs A n c g1 g2 k b W hr hx hn hm (h1.below hb) (h2.below hb) (wyI_len (k := 1) (by omega) hx k)⟩
  · obtain ⟨g1, g2, hv, h1, h2⟩ := h.get 2 (by omega)
    exact ⟨g1, g2, hv, fun A n c k b W hb hr hx hn hm => litG_delta A n c g1 g2 k b W hr hx hn hm (h1.below hb) (h2.below hb) (wyI_len (k := 2) (by omega) hx k)⟩
  · obtain ⟨g1, g2, hv, h1, h2⟩ := h.get 3 (by omega)
    exact ⟨g1, g2, hv, fun A n c k b W hb hr hx hn hm => litG_dict A n c g1 g2 k b W hr hx hn hm (h1.below hb) (h2.below hb) (wyI_len (k := 3) (by omega) hx k)⟩
  · obtain ⟨g1, g2, hv, h1, h2⟩ := h.get 4 (by omega)
    exact ⟨g1, g2, hv, fun A n c k b W hb hr hx hn hm => litG_fore A n c g1 g2 k b W hr hx hn hm (h1.below hb) (h2.below hb) (wyI_len (k := 4) (by omega) hx k)⟩
theorem tab_getT {w : World} {a b : Nat → Value} (h : Tab w a b) : GetsAs 226 w (b 5) 5 := by
  obtain ⟨g1, g2, hv, h1, h2⟩ := h.get 5 (by omega)
  exact ⟨g1, g2, hv, fun A n c k b W hb hr hx hn hm => litG_texts A n c g1 g2 k b W hr hx hn hm (h1.below hb) (h2.below hb) (wyT_len hx k)⟩
theorem tabC_at (a b : Nat → Value) {k : Nat} (hk : k < 6) : (tabC a b)[k * 3]? = some (.int .i64 (if k = 5 then 2 else 1)) ∧ (tabC a b)[k * 3 + 1]? = some (a k) ∧ (tabC a b)[k * 3 + 2]? = some (b k) := by
  have hc : k = 0 ∨ k = 1 ∨ k = 2 ∨ k = 3 ∨ k = 4 ∨ k = 5 := by omega
  rcases hc with rfl | rfl | rfl | rfl | rfl | rfl <;> exact ⟨rfl, rfl, rfl⟩
end Go.Proofs.YticanhidahkhfaaGreatDoor
namespace Go.Proofs.YticanhidahkhfaaGreatDoor
open Go.RowKit
set_option linter.unusedVariables false
set_option linter.unusedSimpArgs false
set_option maxRecDepth 100000
theorem info_form : (Tryz.prog.info? 156).map (fun i => (i.zero, i.size, i.bytes)) = some (some (.agg #[.int .i64 0, .nilFunc, .nilFunc]), 3, 24) := by kernel_rfl
theorem sizeOf_form (W : World) : (sizeOf 156).run Tryz.prog W = .ok 3 W := by
  obtain ⟨i0, hi0, hz0, hz1, hz2⟩ := info_parts info_form
  simp [sizeOf, typeInfo, hi0, hz1]
theorem tabC_cut (a b : Nat → Value) {k : Nat} (hk : k < 6) : (tabC a b).extract (k * 3) (k * 3 + 3) = #[.int .i64 (if k = 5 then 2 else 1), a k, b k] := by
  have hc : k = 0 ∨ k = 1 ∨ k = 2 ∨ k = 3 ∨ k = 4 ∨ k = 5 := by omega
  rcases hc with rfl | rfl | rfl | rfl | rfl | rfl <;> simp [tabC]
theorem run_index_form (a b : Nat → Value) {k : Nat} (hk : k < 6) (W : World) :
    (Instr.index 157 (.agg (tabC a b)) (.int .i64 (k : Int))).run Tryz.prog W = .ok (.agg #[.int .i64 (if k = 5 then 2 else 1), a k, b k]) W := by
  have h1 : (k : Int) < 6 := by omega
  have hz := sizeOf_form W
  have hc := tabC_cut a b hk
  simp [Instr.index, run_underlying Tryz.underlying157, run_underlying Tryz.underlying156, asIntOf, part, isAgg, hz, h1, hc, Result.andThen, Sem.run_bind, Sem.run_pure]
  intro h
  omega
end Go.Proofs.YticanhidahkhfaaGreatDoor
namespace Go.Proofs.YticanhidahkhfaaGreatDoor
open Go.RowKit
set_option linter.unusedVariables false
set_option linter.unusedSimpArgs false
set_option maxRecDepth 100000
theorem frm_len {way : Nat} {l : List Vl} (hl : l.length ≤ 65536) (hi : ∀ v ∈ l, In64 v.2.1) (ht : ∀ v ∈ l, v.2.2.length ≤ 65536) : (frm way l).length ≤ 4295753740 := by
  have h1 := ints_in hi
  have h2 := ints_length_le l
  have h3 := wrds_length_le l
  have h4 := wrds_short ht
  unfold frm
  split
  · have := (pl_length (ints l)).2; omega
  split
  · have := rf_length (runs (ints l)); have := rc_le (ints l); unfold rc at this; omega
  split
  · have := dl_length (ints l) (by omega); omega
  split
  · have := dc_length (ints l) (by omega); omega
  split
  · have := fo_length h1 (by omega); omega
  · exact txf_length _ (by omega) h4
theorem lyB_len {way : Nat} {l : List Vl} (hl : l.length ≤ 65536) (hi : ∀ v ∈ l, In64 v.2.1) (ht : ∀ v ∈ l, v.2.2.length ≤ 65536) : (lyB l way).length ≤ 4295770000 := by
  have h1 := frm_len (way := way) hl hi ht
  have h2 : (headB l).length ≤ 8194 := by
    unfold headB
    split
    · simp
    · rw [List.length_cons, setB_length]; unfold siz; omega
  unfold lyB
  rw [List.length_append, List.length_append, List.length_singleton]
  omega
theorem lyB_byte {way : Nat} {l : List Vl} (hw : way ≤ 5) (hl : l.length ≤ 65536) (hi : ∀ v ∈ l, In64 v.2.1) (ht : ∀ v ∈ l, v.2.2.length ≤ 65536) : ∀ b ∈ lyB l way, b < 256 := by
  intro b hb
  unfold lyB at hb
  rcases List.mem_append.1 hb with hb | hb
  · rcases List.mem_append.1 hb with hb | hb
    · unfold headB at hb
      split at hb
      · simp at hb; omega
      · rcases List.mem_cons.1 hb with hb | hb
        · omega
        · exact (setB_ok (non l) l.length).1.byte b hb
    · simp at hb; omega
  · exact frm_byte hl hi ht b hb
def CkGet (w : World) (b : List Nat) (kd k : Int) (e : Ending) (w' : World) : Prop :=
  ∃ v, e = .returned (.tuple #[v, .int .i64 (gtE b kd k)]) ∧ w'.ownsRow w.heap.size 50 3 v (gtV b kd k).length (vs (gtV b kd k)) ∧ Below w.heap.size w w'
def GetC : Prop := ∀ (A : Option Addr) (n c : Nat) (kd k : Int) (b : List Nat) (W : World), Reads W W.heap.size 1 A n (bs b) → (∀ x ∈ b, x < 256) → n ≤ 140737488355300 → In64 kd → In64 k → Met W →
  Calls Tryz.prog 190 #[.slice A n c, .int .i64 kd, .int .i64 k] W (CkGet W b kd k)
end Go.Proofs.YticanhidahkhfaaGreatDoor
namespace Go.Proofs.YticanhidahkhfaaGreatDoor
open Go.RowKit
set_option linter.unusedVariables false
set_option linter.unusedSimpArgs false
set_option maxRecDepth 100000
theorem lyB_shorter (l : List Vl) (i j : Nat) : (lyB l i).length < (lyB l j).length ↔ (frm i l).length < (frm j l).length := by
  unfold lyB
  simp only [List.length_append, List.length_singleton]
  omega
def Bests (kd : Int) (l : List Vl) (k : Nat) (z f : Int) : Prop := z = bst kd l k ∧ (z = -1 ∧ f = 0 ∨ ∃ j : Nat, z = (j : Int) ∧ j < 6 ∧ f = ((frm j l).length : Int))
theorem Bests.skip {kd : Int} {l : List Vl} {k : Nat} {z f : Int} (h : Bests kd l k z f) (hw : ofW (k : Int) kd = false) : Bests kd l (k + 1) z f := by
  refine ⟨?_, h.2⟩
  rw [bst, if_neg (by rw [hw]; simp)]
  exact h.1
theorem Bests.first {kd : Int} {l : List Vl} {k : Nat} {f : Int} (h : Bests kd l k (-1) f) (hw : ofW (k : Int) kd = true) (hk : k < 6) : Bests kd l (k + 1) (k : Int) ((frm k l).length : Int) := by
  refine ⟨?_, .inr ⟨k, rfl, hk, rfl⟩⟩
  rw [bst, if_pos ⟨hw, .inl (by rw [← h.1]; omega)⟩]
theorem Bests.more {kd : Int} {l : List Vl} {k j : Nat} {f : Int} (h : Bests kd l k (j : Int) f) (hw : ofW (k : Int) kd = true) (hk : k < 6) (hl : ((frm k l).length : Int) < f) : Bests kd l (k + 1) (k : Int) ((frm k l).length : Int) := by
  refine ⟨?_, .inr ⟨k, rfl, hk, rfl⟩⟩
  have key : (lyB l k).length < (lyB l (bst kd l k).toNat).length := by
    rw [← h.1, Int.toNat_natCast, lyB_shorter]
    rcases h.2 with ⟨e, _⟩ | ⟨i, e, _, e2⟩
    · exfalso; omega
    · have : i = j := by omega
      subst this
      rw [e2] at hl
      omega
  rw [bst, if_pos ⟨hw, .inr key⟩]
theorem Bests.same {kd : Int} {l : List Vl} {k j : Nat} {f : Int} (h : Bests kd l k (j : Int) f) (hw : ofW (k : Int) kd = true) (hl : ¬ ((frm k l).length : Int) < f) : Bests kd l (k + 1) (j : Int) f := by
  refine ⟨?_, h.2⟩
  rw [bst, if_neg]
  · exact h.1
  · rintro ⟨_, e⟩
    rw [← h.1, Int.toNat_natCast, lyB_shorter] at e
    rcases h.2 with ⟨e1, _⟩ | ⟨i, e1, _, e2⟩
    · omega
    · have : i = j := by omega
      subst this
      omega
theorem best_no {kd : Int} {l : List Vl} (h : cpE kd (-1) l ≠ 0) : bestW kd l = -1 := by
  unfold bestW
  rw [if_pos]
  by_cases hk : kd ≠ 1 ∧ kd ≠ 2
  · exact .inl hk
  · right
    unfold cpE at h
    have hn : ¬ ((kd ≠ 1 ∧ kd ≠ 2) ∨ ((-1 : Int) ≠ -1 ∧ ofW (-1) kd = false)) := by
      rintro (e | ⟨e, _⟩)
      · exact hk e
      · exact e rfl
    rwa [if_neg hn] at h
theorem best_yes {kd : Int} {l : List Vl} (h : cpE kd (-1) l = 0) : bestW kd l = bst kd l 6 ∧ (kd = 1 ∨ kd = 2) ∧ ∀ v ∈ l, rgt kd v = true := by
  obtain ⟨h1, h2, _, _⟩ := cpE_ok h
  refine ⟨?_, h1, (ckE_ok h2).2.2⟩
  unfold bestW
  rw [if_neg]
  rintro (e | e)
  · omega
  · exact e h2
set_option maxHeartbeats 4000000 in
theorem best_any (A : Option Addr) (n c : Nat) (kd : Int) (l : List Vl) (w : World) (hr : Reads w w.heap.size 3 A n (vs l)) (hn : n ≤ 65536) (hi : ∀ v ∈ l, In64 v.1 ∧ In64 v.2.1) (hs : ∀ v ∈ l, v.2.2.length ≤ 65536) (hk : In64 kd) :
    Calls Tryz.prog 91 #[.slice A n c, .int .i64 kd] w fun e w' => e = .returned (.int .i64 (bestW kd l)) ∧ Below w.heap.size w w' := by
  have e1 : l.length = n := by have := hr.1; rw [vs_length] at this; omega
  have HR := Lib.hid (refusal_any A n c kd (-1) l w hr hn hs)
  obtain ⟨R, hR⟩ : ∃ R, cpE kd (-1) l = R := ⟨_, rfl⟩
  rw [hR] at HR
  by_cases h0 : R = 0
  case neg =>
    rw [best_no (by rw [hR]; exact h0)]
    have q : (R != 0) = true := by simp [h0]
    clear hR h0
    go_enter Tryz.func91, Tryz.ntmps91
    go_wp2_with fail
    refine HR.out.mono ?_
    rintro e w1 ⟨rfl, hb1⟩
    go_wp2_with fail
    go_ret
    exact ⟨rfl, hb1⟩
  case pos =>
    subst h0
    obtain ⟨hbw, hkd, hall⟩ := best_yes hR
    rw [hbw]
    have HAP := Lib.hid fun (W : World) (h : Below w.heap.size w W) => apart_any A n c l W (hr.next h) hn
    have hol := oth_length_le l
    clear hR hbw
    go_enter Tryz.func91, Tryz.ntmps91
    go_wp2_with fail
    refine HR.out.mono ?_
    rintro e w1 ⟨rfl, hb1⟩
    go_wp2_with fail
    refine (HAP.out w1 hb1).mono ?_
    rintro e w2 ⟨g, h, vo, rfl, hS, hO, hb2⟩
    obtain ⟨Ao, co, rfl, _, _, rO⟩ := own_slice hO
    have hb02 := hb1.trans (hb2.mono hb1.size)
    obtain ⟨m, hm0⟩ : ∃ m, (oth l).length = m := ⟨_, rfl⟩
    rw [hm0] at hol rO ⊢
    have hm : m ≤ 65536 := by omega
    clear hS hO hb1 hb2
    go_wp2_with fail
    refine (forms_any w2).mono ?_
    rintro e w3 ⟨a, b, rfl, hT, hb3⟩
    have hb03 := hb02.trans (hb3.mono hb02.size)
    have rO3 := rO.next hb3
    clear rO hb02 hb3
    go_wp2_with fail
    go_loopw [5, 6, 24] (fun s5 s6 s24 wr => ∃ (k : Nat), k ≤ 6 ∧ s24 = .int .i64 (k : Int) ∧ ∃ z f : Int, s5 = .int .i64 z ∧ s6 = .int .i64 f ∧ Bests kd l k z f ∧ Below w3.heap.size w3 wr ∧ Below w.heap.size w wr) (fun _ _ i _ => 6 - (intOf i).toNat)
    case atStart => exact ⟨0, by omega, rfl, -1, 0, rfl, rfl, ⟨rfl, .inl ⟨rfl, rfl⟩⟩, Below.refl _ _, hb03⟩
    case round =>
      clear hb03
      obtain ⟨k, hk6, rfl, z, f, rfl, rfl, hB, hzr, hb⟩ := hrel
      by_cases hlt : k < 6
      · have hl : l.length ≤ 65536 := by omega
        have hLkb := frm_len (way := k) (l := l) hl (fun v hv => (hi v hv).2) hs
        rcases hkd with rfl | rfl
        · by_cases h5 : k = 5
          · subst h5
            obtain ⟨p1, p2, hv, _, _⟩ := hT.put 5 hlt
            obtain ⟨q1, q2, hqb, _, _⟩ := hT.get 5 hlt
            have hix := fun W => run_index_form a b hlt W
            rw [hv, hqb] at hix
            simp only [if_true] at hix
            rw [show ((5 : Nat) : Int) = 5 from rfl] at hix
            have hof : ofW ((5 : Nat) : Int) 1 = false := by unfold ofW; simp; try omega
            have HS := Lib.hid (hB.skip hof)
            clear hB hof hall hi hs
            go_wp2_with fail
            go_round
            case rel => exact ⟨5 + 1, by omega, by go_num, _, _, rfl, rfl, HS.out, hzr.alloc hzr.size _, hb.alloc hb.size _⟩
            case measure => simp [intOf]; try omega
          · obtain ⟨g1, g2, hv, hput⟩ := tab_putN hT (show k < 5 by omega)
            obtain ⟨q1, q2, hqb, _, _⟩ := hT.get k hlt
            have hix := fun W => run_index_form a b hlt W
            rw [hv, hqb, if_neg h5] at hix
            have hof : ofW ((k : Nat) : Int) 1 = true := by unfold ofW; simp; try omega
            have hcall := fun W (h : Below w3.heap.size w3 W) => hput Ao m co (oth l) W h (rO3.next h) hm (oth_kind hall) (fun v hv => (hi v (oth_mem hv).1).2) (fun v hv => hs v (oth_mem hv).1)
            simp only [frm_oth] at hcall
            have HC := Lib.hid hcall
            obtain ⟨Lk, hLk⟩ : ∃ Lk, (frm k l).length = Lk := ⟨_, rfl⟩
            rw [hLk] at hLkb
            clear hput hcall hall hi hs hv hqb
            rcases hB.2 with ⟨rfl, rfl⟩ | ⟨j, rfl, hj, hfj⟩
            · have hn := hB.first hof (by omega)
              rw [hLk] at hn
              have HS := Lib.hid hn
              have HL := Lib.hid hLk
              clear hB hof hn hLk
              go_wp2_with fail
              refine (HC.out _ (hzr.alloc hzr.size _)).mono ?_
              rintro e w5 ⟨v5, rfl, hown5, hb5⟩
              obtain ⟨A5, c5, rfl, _, _, _⟩ := own_slice hown5
              rw [HL.out]
              have hz5 : Below wr.heap.size wr w5 := ((Below.refl _ _).alloc (Nat.le_refl _) _).trans (hb5.mono (by simp))
              clear hown5 hb5
              go_wp2_with fail
              go_round
              case rel => exact ⟨k + 1, by omega, by go_num, _, _, rfl, rfl, HS.out, hzr.trans (hz5.mono hzr.size), hb.trans (hz5.mono hb.size)⟩
              case measure => simp [intOf]; try omega
            · obtain ⟨fj, hfj'⟩ : ∃ fj, (frm j l).length = fj := ⟨_, rfl⟩
              rw [hfj'] at hfj
              subst hfj
              have q : ((j : Int) == -1) = false := by simp
              have HL := Lib.hid hLk
              by_cases hlq : Lk < fj
              · have hn := hB.more hof (by omega) (by have := hLk; omega)
                rw [hLk] at hn
                have HS := Lib.hid hn
                clear hB hof hn hLk hfj'
                go_wp2_with fail
                refine (HC.out _ (hzr.alloc hzr.size _)).mono ?_
                rintro e w5 ⟨v5, rfl, hown5, hb5⟩
                obtain ⟨A5, c5, rfl, _, _, _⟩ := own_slice hown5
                rw [HL.out]
                have hz5 : Below wr.heap.size wr w5 := ((Below.refl _ _).alloc (Nat.le_refl _) _).trans (hb5.mono (by simp))
                clear hown5 hb5
                go_wp2_with fail
                go_round
                case rel => exact ⟨k + 1, by omega, by go_num, _, _, rfl, rfl, HS.out, hzr.trans (hz5.mono hzr.size), hb.trans (hz5.mono hb.size)⟩
                case measure => simp [intOf]; try omega
              · have hn := hB.same hof (by have := hLk; omega)
                have HS := Lib.hid hn
                clear hB hof hn hLk hfj'
                go_wp2_with fail
                refine (HC.out _ (hzr.alloc hzr.size _)).mono ?_
                rintro e w5 ⟨v5, rfl, hown5, hb5⟩
                obtain ⟨A5, c5, rfl, _, _, _⟩ := own_slice hown5
                rw [HL.out]
                have hz5 : Below wr.heap.size wr w5 := ((Below.refl _ _).alloc (Nat.le_refl _) _).trans (hb5.mono (by simp))
                clear hown5 hb5
                go_wp2_with fail
                go_round
                case rel => exact ⟨k + 1, by omega, by go_num, _, _, rfl, rfl, HS.out, hzr.trans (hz5.mono hzr.size), hb.trans (hz5.mono hb.size)⟩
                case measure => simp [intOf]; try omega
        · by_cases h5 : k = 5
          · subst h5
            obtain ⟨g1, g2, hv, hput⟩ := tab_putT hT
            obtain ⟨q1, q2, hqb, _, _⟩ := hT.get 5 hlt
            have hix := fun W => run_index_form a b hlt W
            rw [hv, hqb] at hix
            simp only [if_true] at hix
            rw [show ((5 : Nat) : Int) = 5 from rfl] at hix
            have hof : ofW ((5 : Nat) : Int) 2 = true := by unfold ofW; simp; try omega
            have hcall := fun W (h : Below w3.heap.size w3 W) => hput Ao m co (oth l) W h (rO3.next h) hm (oth_kind hall) (fun v hv => (hi v (oth_mem hv).1).2) (fun v hv => hs v (oth_mem hv).1)
            simp only [frm_oth] at hcall
            have HC := Lib.hid hcall
            obtain ⟨Lk, hLk⟩ : ∃ Lk, (frm 5 l).length = Lk := ⟨_, rfl⟩
            rw [hLk] at hLkb
            clear hput hcall hall hi hs hv hqb
            rcases hB.2 with ⟨rfl, rfl⟩ | ⟨j, rfl, hj, hfj⟩
            · have hn := hB.first hof (by omega)
              rw [hLk] at hn
              have HS := Lib.hid hn
              have HL := Lib.hid hLk
              clear hB hof hn hLk
              go_wp2_with fail
              refine (HC.out _ (hzr.alloc hzr.size _)).mono ?_
              rintro e w5 ⟨v5, rfl, hown5, hb5⟩
              obtain ⟨A5, c5, rfl, _, _, _⟩ := own_slice hown5
              rw [HL.out]
              have hz5 : Below wr.heap.size wr w5 := ((Below.refl _ _).alloc (Nat.le_refl _) _).trans (hb5.mono (by simp))
              clear hown5 hb5
              go_wp2_with fail
              go_round
              case rel => exact ⟨5 + 1, by omega, by go_num, _, _, rfl, rfl, HS.out, hzr.trans (hz5.mono hzr.size), hb.trans (hz5.mono hb.size)⟩
              case measure => simp [intOf]; try omega
            · obtain ⟨fj, hfj'⟩ : ∃ fj, (frm j l).length = fj := ⟨_, rfl⟩
              rw [hfj'] at hfj
              subst hfj
              have q : ((j : Int) == -1) = false := by simp
              have HL := Lib.hid hLk
              by_cases hlq : Lk < fj
              · have hn := hB.more hof (by omega) (by have := hLk; omega)
                rw [hLk] at hn
                have HS := Lib.hid hn
                clear hB hof hn hLk hfj'
                go_wp2_with fail
                refine (HC.out _ (hzr.alloc hzr.size _)).mono ?_
                rintro e w5 ⟨v5, rfl, hown5, hb5⟩
                obtain ⟨A5, c5, rfl, _, _, _⟩ := own_slice hown5
                rw [HL.out]
                have hz5 : Below wr.heap.size wr w5 := ((Below.refl _ _).alloc (Nat.le_refl _) _).trans (hb5.mono (by simp))
                clear hown5 hb5
                go_wp2_with fail
                go_round
                case rel => exact ⟨5 + 1, by omega, by go_num, _, _, rfl, rfl, HS.out, hzr.trans (hz5.mono hzr.size), hb.trans (hz5.mono hb.size)⟩
                case measure => simp [intOf]; try omega
              · have hn := hB.same hof (by have := hLk; omega)
                have HS := Lib.hid hn
                clear hB hof hn hLk hfj'
                go_wp2_with fail
                refine (HC.out _ (hzr.alloc hzr.size _)).mono ?_
                rintro e w5 ⟨v5, rfl, hown5, hb5⟩
                obtain ⟨A5, c5, rfl, _, _, _⟩ := own_slice hown5
                rw [HL.out]
                have hz5 : Below wr.heap.size wr w5 := ((Below.refl _ _).alloc (Nat.le_refl _) _).trans (hb5.mono (by simp))
                clear hown5 hb5
                go_wp2_with fail
                go_round
                case rel => exact ⟨5 + 1, by omega, by go_num, _, _, rfl, rfl, HS.out, hzr.trans (hz5.mono hzr.size), hb.trans (hz5.mono hb.size)⟩
                case measure => simp [intOf]; try omega
          · obtain ⟨p1, p2, hv, _, _⟩ := hT.put k hlt
            obtain ⟨q1, q2, hqb, _, _⟩ := hT.get k hlt
            have hix := fun W => run_index_form a b hlt W
            rw [hv, hqb, if_neg h5] at hix
            have hof : ofW ((k : Nat) : Int) 2 = false := by unfold ofW; simp; try omega
            have HS := Lib.hid (hB.skip hof)
            clear hB hof hall hi hs
            go_wp2_with fail
            go_round
            case rel => exact ⟨k + 1, by omega, by go_num, _, _, rfl, rfl, HS.out, hzr.alloc hzr.size _, hb.alloc hb.size _⟩
            case measure => simp [intOf]; try omega
      · obtain rfl : k = 6 := by omega
        have hz := hB.1
        subst hz
        clear hB hall hi hs
        go_wp2_with fail
        go_ret
        exact ⟨rfl, hb⟩
end Go.Proofs.YticanhidahkhfaaGreatDoor
namespace Go.Proofs.YticanhidahkhfaaGreatDoor
open Go.RowKit
set_option linter.unusedVariables false
set_option linter.unusedSimpArgs false
set_option maxRecDepth 100000
def CkPut (w : World) (kd way : Int) (l : List Vl) (e : Ending) (w' : World) : Prop :=
  ∃ v, e = .returned (.tuple #[v, .int .i64 (cpE kd way l)]) ∧ w'.ownsRow w.heap.size 5 1 v (cpB kd way l).length (bs (cpB kd way l)) ∧ Below w.heap.size w w'
theorem CkPut.no {w w' : World} {kd way : Int} {l : List Vl} {f : Int} (h : cpE kd way l = f) (hf : f ≠ 0) (hb : Below w.heap.size w w') : CkPut w kd way l (.returned (.tuple #[.slice none 0 0, .int .i64 f])) w' := by
  refine ⟨.slice none 0 0, by rw [h], ?_, hb⟩
  have : cpB kd way l = [] := by unfold cpB; rw [if_neg (by rw [h]; exact hf)]
  rw [this]
  exact own_nil _ _ _ _
theorem CkPut.yes {w w' : World} {kd way : Int} {l : List Vl} {wn : Nat} {v : Value} (h : cpE kd way l = 0) (hw : cpW kd way l = wn) (hown : w'.ownsRow w.heap.size 5 1 v (lyB l wn).length (bs (lyB l wn))) (hb : Below w.heap.size w w') : CkPut w kd way l (.returned (.tuple #[v, .int .i64 0])) w' := by
  refine ⟨v, by rw [h], ?_, hb⟩
  have : cpB kd way l = lyB l wn := by unfold cpB; rw [if_pos h, hw]
  rw [this]
  exact hown
end Go.Proofs.YticanhidahkhfaaGreatDoor
namespace Go.Proofs.YticanhidahkhfaaGreatDoor
open Go.RowKit
set_option linter.unusedVariables false
set_option linter.unusedSimpArgs false
set_option maxRecDepth 100000
theorem run_field_put (x p q : Value) (W : World) : (Instr.field 156 (.agg #[x, p, q]) 1).run Tryz.prog W = .ok p W := by
  simp [Instr.field, run_underlying Tryz.underlying156, run_underlying Tryz.underlying153, part, isAgg, asAgg, Result.andThen, Sem.run_bind, Sem.run_pure]
theorem run_field_get (x p q : Value) (W : World) : (Instr.field 156 (.agg #[x, p, q]) 2).run Tryz.prog W = .ok q W := by
  simp [Instr.field, run_underlying Tryz.underlying156, run_underlying Tryz.underlying154, part, isAgg, asAgg, Result.andThen, Sem.run_bind, Sem.run_pure]
end Go.Proofs.YticanhidahkhfaaGreatDoor
