/- Contract of the document's answer for frames: Get. -/
import Derived.Test.YtpibekpddbhojaaDoorFrGet
import Derived.Test.YtpibekpddbhojaaDoorRefFix
import Derived.Test.YtpibekpddbhojaaDoorRefFrPut
import Derived.Test.YtpibekpddbhojaaDoorWhole
namespace Go.Proofs.YtpibekpddbhojaaDoor
open Go.RowKit
set_option linter.unusedVariables false
set_option maxRecDepth 100000

def GotTo (w : World) (B : Nat) (g : List Nat × Nat × Int) (e : Ending) (w' : World) : Prop :=
  ∃ A c, e = .returned (.agg #[.slice A g.1.length c, .int .i64 (g.2.1 : Int), .int .i64 g.2.2]) ∧ OwnB w' B A g.1 ∧ Below w.heap.size w w'
theorem rf_new {w : World} {A : Option Addr} {n c : Nat} {l : List Nat} (hr : Reads w w.heap.size 1 A n (bs l)) (hl : ∀ b ∈ l, b < 256) (hc : n ≤ c) (hn : n ≤ 140737488355328) :
    RfS (w.alloc (.cells #[.slice A n c, .int .i64 0, .int .i64 0, .int .i64 0] 56)) w.heap.size l 0 none :=
  ⟨⟨A, n, c, Blk.new w _ _, hr.alloc (Nat.le_refl _) _, hc, Nat.zero_le _, hn, hl⟩, fun _ h => by cases h⟩
theorem RfS.cell {w : World} {g : Nat} {l : List Nat} {at_ : Nat} {x : Option (Int × Nat)} (h : RfS w g l at_ x) : w.cell? ⟨g, 1, none⟩ = some (.int .i64 (at_ : Int)) ∧ w.cell? ⟨g, 2, none⟩ = some (.int .i64 (errS x).1) := by
  obtain ⟨⟨A, n, c, hR⟩, _⟩ := h
  exact ⟨hR.blk.cell 1, hR.blk.cell 2⟩
theorem RfTo.below_new {w w1 w2 : World} {g : Nat} {l : List Nat} {at_ : Nat} {x : Option (Int × Nat)} (h : RfTo w1 g l at_ x w2) (hb : Below w.heap.size w w1) (hg : w.heap.size ≤ g) : Below w.heap.size w w2 :=
  hb.grown h.2 hb.size (fun k hk => by injection hk with hk; omega)
theorem takeS_short (l : List Nat) (a n : Nat) (h : l.length < a + n) (ha : a ≤ l.length) : takeS l a none (n : Int) = ([], a, some (2, a)) := by
  unfold takeS
  rw [if_neg (by omega), if_pos (by omega)]
theorem takeS_ok (l : List Nat) (a n : Nat) (h : a + n ≤ l.length) : takeS l a none (n : Int) = ((l.drop a).take n, a + n, none) := by
  unfold takeS
  rw [if_neg (by omega), if_neg (by omega)]
  simp
/-- What stands behind the beginning: the result's block, and the reader. -/
structure Front (w w0 : World) (l : List Nat) : Prop where
  blk : Blk w0 w.heap.size 33 #[.slice none 0 0, .int .i64 0, .int .i64 0]
  below : Below w.heap.size w w0
def FrontR (w w0 : World) (l : List Nat) (at_ : Nat) (x : Option (Int × Nat)) : Prop := Front w w0 l ∧ RfS w0 (w.heap.size + 1) l at_ x
theorem front_new {w : World} {A : Option Addr} {n c : Nat} {l : List Nat} (hr : Reads w w.heap.size 1 A n (bs l)) (hl : ∀ b ∈ l, b < 256) (hc : n ≤ c) (hn : n ≤ 140737488355328) :
    FrontR w ((w.alloc (.cells #[.slice none 0 0, .int .i64 0, .int .i64 0] 33)).alloc (.cells #[.slice A n c, .int .i64 0, .int .i64 0, .int .i64 0] 56)) l 0 none := by
  have h := rf_new (w := w.alloc (.cells #[.slice none 0 0, .int .i64 0, .int .i64 0] 33)) ((hr.alloc (Nat.le_refl _) _).more (by simp)) hl hc hn
  simp only [World.size_alloc] at h
  exact ⟨⟨(Blk.new w _ _).alloc _, ((Below.refl _ _).alloc (Nat.le_refl _) _).alloc (by simp) _⟩, h⟩
theorem FrontR.step {w w0 w1 : World} {l : List Nat} {at_ at' : Nat} {x x' : Option (Int × Nat)} (h : FrontR w w0 l at_ x) (hto : RfTo w0 (w.heap.size + 1) l at' x' w1) : FrontR w w1 l at' x' :=
  ⟨⟨h.1.blk.grown hto.2 (by simp), h.1.below.grown hto.2 h.1.below.size (fun k hk => by injection hk with hk; omega)⟩, hto.1⟩
theorem FrontR.next {w w0 w1 : World} {l : List Nat} {at_ : Nat} {x : Option (Int × Nat)} (h : FrontR w w0 l at_ x) (hb : Below w0.heap.size w0 w1) : FrontR w w1 l at_ x :=
  ⟨⟨h.1.blk.below hb h.1.blk.lt, h.1.below.trans (hb.mono h.1.below.size)⟩, h.2.next hb⟩
theorem info_got : (Tryd.prog.info? 33).map (·.size) = some 3 := by kernel_rfl
theorem OwnB.set {w : World} {B : Nat} {A : Option Addr} {p : List Nat} (h : OwnB w B A p) {q : Addr} (hq : q.block < B) (u : Value) : OwnB (w.setCell q u) B A p := by
  refine ⟨⟨h.reads.1, fun hn => ?_⟩, h.far⟩
  obtain ⟨ad, had, hlt, hc⟩ := h.reads.2 hn
  refine ⟨ad, had, by simpa [World.setCell] using hlt, fun j v hv => ?_⟩
  have hf := h.far ad had
  rw [World.cell?_setCell_other w q _ u (fun e => by have := congrArg Addr.block e; rw [block_of_add] at this; omega)]
  exact hc j v hv
theorem got_end {w w3 : World} {l : List Nat} (hF : Front w w3 l) {a : Act} (hd : a.defers = []) (ht : a.tmps.getD 2 undef = .pointer (some ⟨w.heap.size, 0, none⟩)) {A : Option Addr} {c : Nat} {p : List Nat} (k : Nat) (e : Int) (ho : OwnB w3 (w.heap.size + 1) A p) :
    bodyPost Tryd.prog Tryd.f13 (GotTo w w.heap.size (p, k, e)) Exit.ret a (((w3.setCell ⟨w.heap.size, 0, none⟩ (.slice A p.length c)).setCell ⟨w.heap.size, 1, none⟩ (.int .i64 (k : Int))).setCell ⟨w.heap.size, 2, none⟩ (.int .i64 e)) := by
  have hb := ((hF.blk.set_ 0 (.slice A p.length c)).set_ 1 (.int .i64 (k : Int))).set_ 2 (.int .i64 e)
  have ho1 := ((ho.set (q := ⟨w.heap.size, 0, none⟩) (by simp) (.slice A p.length c)).set (q := ⟨w.heap.size, 1, none⟩) (by simp) (.int .i64 (k : Int))).set (q := ⟨w.heap.size, 2, none⟩) (by simp) (.int .i64 e)
  have hbl := ((hF.below.setCell (p := ⟨w.heap.size, 0, none⟩) (Nat.le_refl _) (.slice A p.length c)).setCell (p := ⟨w.heap.size, 1, none⟩) (Nat.le_refl _) (.int .i64 (k : Int))).setCell (p := ⟨w.heap.size, 2, none⟩) (Nat.le_refl _) (.int .i64 e)
  generalize ((w3.setCell ⟨w.heap.size, 0, none⟩ (.slice A p.length c)).setCell ⟨w.heap.size, 1, none⟩ (.int .i64 (k : Int))).setCell ⟨w.heap.size, 2, none⟩ (.int .i64 e) = W at hb ho1 hbl ⊢
  have hb' : Blk W w.heap.size 33 #[.slice A p.length c, .int .i64 (k : Int), .int .i64 e] := by simpa using hb
  have hld := run_loadVar_row (P := Tryd.prog) W w.heap.size 33 33 #[.slice A p.length c, .int .i64 (k : Int), .int .i64 e] (0, 0) _ hb' Tryd.underlying33 rfl info_got
  refine bodyPost_ret (v := .agg #[.slice A p.length c, .int .i64 (k : Int), .int .i64 e]) ?_ hd ⟨A, c, rfl, ⟨ho1.reads, fun ad had => by have := ho1.far ad had; omega⟩, hbl⟩
  rw [results_cell rfl, ht]
  simp [asAddr, Result.andThen, hld]
set_option maxHeartbeats 1000000 in
theorem refGet_short4 (A : Option Addr) (n c : Nat) (l : List Nat) (w : World) (hr : Reads w w.heap.size 1 A n (bs l)) (hl : ∀ b ∈ l, b < 256) (hc : n ≤ c) (hn : n ≤ 140737488355328) (h4 : l.length < 4) :
    Calls Tryd.prog 13 #[.slice A n c] w (GotTo w w.heap.size ([], 0, 2)) := by
  have hS0 := front_new hr hl hc hn
  have hf1 := fix4_short l 0 (by omega) (by omega)
  have HF1 := Lib.hid hf1; clear hf1
  clear hl h4
  go_enter Tryd.func13, Tryd.ntmps13
  go_wp2_with fail
  obtain ⟨w0, hw0⟩ : ∃ w0 : World, (w.alloc (.cells #[.slice none 0 0, .int .i64 0, .int .i64 0] 33)).alloc (.cells #[.slice A n c, .int .i64 0, .int .i64 0, .int .i64 0] 56) = w0 := ⟨_, rfl⟩
  rw [hw0] at hS0 ⊢
  clear hw0
  have hfx := rfix_is 4 hS0.2
  rw [HF1.out] at hfx
  refine hfx.mono ?_
  clear hfx
  rintro e w1 ⟨rfl, hto1⟩
  have hS1 := hS0.step hto1
  have hc1 : w1.cell? ⟨w.heap.size + 1, 2, none⟩ = some (.int .i64 2) := hS1.2.cell.2
  clear hS0 hto1
  go_wp2_with fail
  have hfx : Calls Tryd.prog 26 #[.pointer (some ⟨w.heap.size + 1, 0, none⟩), .int .i64 4] w1 fun e w' => e = .returned (.int .u64 0) ∧ RfTo w1 (w.heap.size + 1) l 0 (some (2, 0)) w' := rfix_is 4 hS1.2
  refine hfx.mono ?_
  clear hfx
  rintro e w2 ⟨rfl, hto2⟩
  have hS2 := hS1.step hto2
  clear hS1 hto2 hc1
  go_wp2_with fail
  have htx : Calls Tryd.prog 27 #[.pointer (some ⟨w.heap.size + 1, 0, none⟩), .int .i64 0] w2 fun e w' => BytesN w2.heap.size [] e w' ∧ RfTo w2 (w.heap.size + 1) l 0 (some (2, 0)) w' := rtake_isN 0 hS2.2
  refine htx.mono ?_
  clear htx
  rintro e w3 ⟨⟨A3, n3, c3, rfl, hr3, _⟩, hto3⟩
  obtain rfl : n3 = 0 := by have := hr3.1; simpa [bs] using this.symm
  have hS3 := hS2.step hto3
  have hc3 : w3.cell? ⟨w.heap.size + 1, 2, none⟩ = some (.int .i64 2) := hS3.2.cell.2
  clear hS2 hto3
  have hG0 := hS3.1.blk.cell 0
  have hG1 := hS3.1.blk.cell 1
  have hG2 := hS3.1.blk.cell 2
  have hZ0 := hS3.1.blk.frozen 0
  have hZ1 := hS3.1.blk.frozen 1
  have hZ2 := hS3.1.blk.frozen 2
  simp only [List.getElem?_toArray, List.getElem?_cons_succ, List.getElem?_cons_zero] at hG0 hG1 hG2
  go_wp2_with fail
  exact got_end hS3.1 rfl rfl 0 2 OwnB.none_
set_option maxHeartbeats 1000000 in
theorem refGet_limit (A : Option Addr) (n c : Nat) (l : List Nat) (w : World) (hr : Reads w w.heap.size 1 A n (bs l)) (hl : ∀ b ∈ l, b < 256) (hc : n ≤ c) (hn : n ≤ 140737488355328) (h4 : ¬ l.length < 4) (hz : 16777216 < fz l) :
    Calls Tryd.prog 13 #[.slice A n c] w (GotTo w w.heap.size ([], 0, 12)) := by
  have hS0 := front_new hr hl hc hn
  have hf1 := fix4_ok l 0 (by omega)
  have hzl := fz_lt l hl
  rw [List.drop_zero] at hf1
  rw [show unfx (l.take 4) = fz l from rfl] at hf1
  generalize fz l = z at hf1 hzl hz
  have HF1 := Lib.hid hf1; clear hf1
  clear hl h4
  go_enter Tryd.func13, Tryd.ntmps13
  go_wp2_with fail
  obtain ⟨w0, hw0⟩ : ∃ w0 : World, (w.alloc (.cells #[.slice none 0 0, .int .i64 0, .int .i64 0] 33)).alloc (.cells #[.slice A n c, .int .i64 0, .int .i64 0, .int .i64 0] 56) = w0 := ⟨_, rfl⟩
  rw [hw0] at hS0 ⊢
  clear hw0
  have hfx := rfix_is 4 hS0.2
  rw [HF1.out] at hfx
  refine hfx.mono ?_
  clear hfx
  rintro e w1 ⟨rfl, hto1⟩
  have hS1 := hS0.step hto1
  have hc1 : w1.cell? ⟨w.heap.size + 1, 2, none⟩ = some (.int .i64 0) := hS1.2.cell.2
  clear hS0 hto1
  have hG0 := hS1.1.blk.cell 0
  have hG1 := hS1.1.blk.cell 1
  have hG2 := hS1.1.blk.cell 2
  have hZ0 := hS1.1.blk.frozen 0
  have hZ1 := hS1.1.blk.frozen 1
  have hZ2 := hS1.1.blk.frozen 2
  simp only [List.getElem?_toArray, List.getElem?_cons_succ, List.getElem?_cons_zero] at hG0 hG1 hG2
  go_wp2_with fail
  exact got_end hS1.1 rfl rfl 0 12 OwnB.none_
set_option maxHeartbeats 1000000 in
theorem refGet_short8 (A : Option Addr) (n c : Nat) (l : List Nat) (w : World) (hr : Reads w w.heap.size 1 A n (bs l)) (hl : ∀ b ∈ l, b < 256) (hc : n ≤ c) (hn : n ≤ 140737488355328) (h4 : ¬ l.length < 4) (h8 : l.length < 8) (hz : ¬ 16777216 < fz l) :
    Calls Tryd.prog 13 #[.slice A n c] w (GotTo w w.heap.size ([], 0, 2)) := by
  have hS0 := front_new hr hl hc hn
  have hf1 := fix4_ok l 0 (by omega)
  have hzl := fz_lt l hl
  rw [List.drop_zero] at hf1
  rw [show unfx (l.take 4) = fz l from rfl] at hf1
  have hf2 := fix4_short l 4 (by omega) (by omega)
  generalize fz l = z at hf1 hzl hz
  have HF1 := Lib.hid hf1; clear hf1
  have HF2 := Lib.hid hf2; clear hf2
  clear hl h4 h8
  go_enter Tryd.func13, Tryd.ntmps13
  go_wp2_with fail
  obtain ⟨w0, hw0⟩ : ∃ w0 : World, (w.alloc (.cells #[.slice none 0 0, .int .i64 0, .int .i64 0] 33)).alloc (.cells #[.slice A n c, .int .i64 0, .int .i64 0, .int .i64 0] 56) = w0 := ⟨_, rfl⟩
  rw [hw0] at hS0 ⊢
  clear hw0
  have hfx := rfix_is 4 hS0.2
  rw [HF1.out] at hfx
  refine hfx.mono ?_
  clear hfx
  rintro e w1 ⟨rfl, hto1⟩
  have hS1 := hS0.step hto1
  have hc1 : w1.cell? ⟨w.heap.size + 1, 2, none⟩ = some (.int .i64 0) := hS1.2.cell.2
  clear hS0 hto1
  go_wp2_with fail
  have hfx := rfix_is 4 hS1.2
  simp only [Nat.zero_add] at hfx
  rw [HF2.out] at hfx
  refine hfx.mono ?_
  clear hfx
  rintro e w2 ⟨rfl, hto2⟩
  have hS2 := (show FrontR w w1 l 4 none from hS1).step hto2
  clear hS1 hto2 hc1
  go_wp2_with fail
  have htx : Calls Tryd.prog 27 #[.pointer (some ⟨w.heap.size + 1, 0, none⟩), .int .i64 (z : Int)] w2 fun e w' => BytesN w2.heap.size [] e w' ∧ RfTo w2 (w.heap.size + 1) l 4 (some (2, 4)) w' := rtake_isN (z : Int) hS2.2
  refine htx.mono ?_
  clear htx
  rintro e w3 ⟨⟨A3, n3, c3, rfl, hr3, _⟩, hto3⟩
  obtain rfl : n3 = 0 := by have := hr3.1; simpa [bs] using this.symm
  have hS3 := hS2.step hto3
  have hc3 : w3.cell? ⟨w.heap.size + 1, 2, none⟩ = some (.int .i64 2) := hS3.2.cell.2
  clear hS2 hto3
  have hG0 := hS3.1.blk.cell 0
  have hG1 := hS3.1.blk.cell 1
  have hG2 := hS3.1.blk.cell 2
  have hZ0 := hS3.1.blk.frozen 0
  have hZ1 := hS3.1.blk.frozen 1
  have hZ2 := hS3.1.blk.frozen 2
  simp only [List.getElem?_toArray, List.getElem?_cons_succ, List.getElem?_cons_zero] at hG0 hG1 hG2
  go_wp2_with fail
  exact got_end hS3.1 rfl rfl 0 2 OwnB.none_
set_option maxHeartbeats 1000000 in
theorem refGet_end (A : Option Addr) (n c : Nat) (l : List Nat) (w : World) (hr : Reads w w.heap.size 1 A n (bs l)) (hl : ∀ b ∈ l, b < 256) (hc : n ≤ c) (hn : n ≤ 140737488355328) (h8 : ¬ l.length < 8) (hz : ¬ 16777216 < fz l) (hs : l.length < 8 + fz l) :
    Calls Tryd.prog 13 #[.slice A n c] w (GotTo w w.heap.size ([], 0, 2)) := by
  have hS0 := front_new hr hl hc hn
  have hf1 := fix4_ok l 0 (by omega)
  have hzl := fz_lt l hl
  rw [List.drop_zero] at hf1
  rw [show unfx (l.take 4) = fz l from rfl] at hf1
  have hf2 := fix4_ok l 4 (by omega)
  have hul := unfx_lt ((l.drop 4).take 4) fun b hb => hl b (List.mem_of_mem_drop (List.mem_of_mem_take hb))
  rw [show ((l.drop 4).take 4).length = 4 by rw [List.length_take, List.length_drop]; omega, show (256 : Nat) ^ 4 = 4294967296 by decide] at hul
  have ht := takeS_short l 8 (fz l) (by omega) (by omega)
  generalize fz l = z at hf1 hzl hz ht hs
  generalize unfx ((l.drop 4).take 4) = u at hf2 hul
  have HF1 := Lib.hid hf1; clear hf1
  have HF2 := Lib.hid hf2; clear hf2
  have HT := Lib.hid ht; clear ht
  clear hl h8 hs
  go_enter Tryd.func13, Tryd.ntmps13
  go_wp2_with fail
  obtain ⟨w0, hw0⟩ : ∃ w0 : World, (w.alloc (.cells #[.slice none 0 0, .int .i64 0, .int .i64 0] 33)).alloc (.cells #[.slice A n c, .int .i64 0, .int .i64 0, .int .i64 0] 56) = w0 := ⟨_, rfl⟩
  rw [hw0] at hS0 ⊢
  clear hw0
  have hfx := rfix_is 4 hS0.2
  rw [HF1.out] at hfx
  refine hfx.mono ?_
  clear hfx
  rintro e w1 ⟨rfl, hto1⟩
  have hS1 := hS0.step hto1
  have hc1 : w1.cell? ⟨w.heap.size + 1, 2, none⟩ = some (.int .i64 0) := hS1.2.cell.2
  clear hS0 hto1
  go_wp2_with fail
  have hfx := rfix_is 4 hS1.2
  simp only [Nat.zero_add] at hfx
  rw [HF2.out] at hfx
  refine hfx.mono ?_
  clear hfx
  rintro e w2 ⟨rfl, hto2⟩
  have hS2 := (show FrontR w w1 l 4 none from hS1).step hto2
  clear hS1 hto2 hc1
  go_wp2_with fail
  have htx := rtake_isN (z : Int) hS2.2
  rw [HT.out] at htx
  refine htx.mono ?_
  clear htx
  rintro e w3 ⟨⟨A3, n3, c3, rfl, hr3, _⟩, hto3⟩
  obtain rfl : n3 = 0 := by have := hr3.1; simpa [bs] using this.symm
  have hS3 := hS2.step hto3
  have hc3 : w3.cell? ⟨w.heap.size + 1, 2, none⟩ = some (.int .i64 2) := hS3.2.cell.2
  clear hS2 hto3
  have hG0 := hS3.1.blk.cell 0
  have hG1 := hS3.1.blk.cell 1
  have hG2 := hS3.1.blk.cell 2
  have hZ0 := hS3.1.blk.frozen 0
  have hZ1 := hS3.1.blk.frozen 1
  have hZ2 := hS3.1.blk.frozen 2
  simp only [List.getElem?_toArray, List.getElem?_cons_succ, List.getElem?_cons_zero] at hG0 hG1 hG2
  go_wp2_with fail
  exact got_end hS3.1 rfl rfl 0 2 OwnB.none_
end Go.Proofs.YtpibekpddbhojaaDoor
