/- A set in memory: its object and its bytes; what leaves it as it is. No condition. -/
import Derived.Test.YtgfpemndbgdhdaaBmPlain
import Derived.Test.YtgfpemndbgdhdaaMem
namespace Go.Proofs.Ytgfpemndbgdhdaa
open Go.RowKit
set_option linter.unusedVariables false
set_option linter.unusedSimpArgs false
set_option maxRecDepth 100000

/-- The set of 'n' places whose bytes are 'l' lies at 'g', its bytes in 'h', both from 'B' on. -/
structure SetIn (w : World) (B g h n : Nat) (l : List Nat) : Prop where
  ok : OkS n l
  le : n ≤ 65536
  obj : Blk w g 47 #[.int .i64 (n : Int), .slice (some ⟨h, 0, none⟩) l.length l.length]
  row : Blk w h 5 (bs l).toArray
  bg : B ≤ g
  bh : B ≤ h
section
variable {w w' : World} {B g h n : Nat} {l : List Nat}
theorem SetIn.ne (s : SetIn w B g h n l) : g ≠ h := by
  rintro rfl
  have h1 := s.obj
  have h2 := s.row
  unfold Blk at h1 h2
  rw [h1] at h2
  simp at h2
theorem SetIn.size (s : SetIn w B g h n l) : l.length = siz n ∧ l.length ≤ 8192 := by
  have h1 := s.ok.len
  have h2 := s.le
  refine ⟨h1, ?_⟩
  unfold siz at h1
  omega
theorem SetIn.keep (s : SetIn w B g h n l) (h1 : w'.heap[g]? = w.heap[g]?) (h2 : w'.heap[h]? = w.heap[h]?) : SetIn w' B g h n l :=
  ⟨s.ok, s.le, h1.trans s.obj, h2.trans s.row, s.bg, s.bh⟩
theorem SetIn.below (s : SetIn w B g h n l) {B' : Nat} (hb : Below B' w w') (hB : w.heap.size ≤ B') : SetIn w' B g h n l :=
  s.keep (hb.block g (Nat.lt_of_lt_of_le s.obj.lt hB)) (hb.block h (Nat.lt_of_lt_of_le s.row.lt hB))
theorem SetIn.drawn (s : SetIn w B g h n l) (hd : Drawn w w') : SetIn w' B g h n l := by
  obtain ⟨q, rfl⟩ := hd
  exact s.keep rfl rfl
theorem SetIn.drew (s : SetIn w B g h n l) : SetIn w.drew B g h n l := s.keep rfl rfl
theorem SetIn.alloc (s : SetIn w B g h n l) (o : Obj) : SetIn (w.alloc o) B g h n l :=
  s.keep (Below.heap_alloc w o g s.obj.lt) (Below.heap_alloc w o h s.row.lt)
theorem SetIn.setCell (s : SetIn w B g h n l) {p : Addr} (hg : g ≠ p.block) (hh : h ≠ p.block) (u : Value) : SetIn (w.setCell p u) B g h n l :=
  s.keep (Below.heap_setCell w p u g hg) (Below.heap_setCell w p u h hh)
theorem SetIn.grown (s : SetIn w B g h n l) {row : Option Nat} (hb : w.grownBy w' row) (hg : some g ≠ row) (hh : some h ≠ row) : SetIn w' B g h n l :=
  s.keep (hb.block g s.obj.lt hg) (hb.block h s.row.lt hh)
theorem SetIn.from {B' : Nat} (s : SetIn w B g h n l) (hB : B' ≤ B) : SetIn w B' g h n l := ⟨s.ok, s.le, s.obj, s.row, Nat.le_trans hB s.bg, Nat.le_trans hB s.bh⟩
/-- Its own two cells. -/
theorem SetIn.cells (s : SetIn w B g h n l) : w.cell? ⟨g, 0, none⟩ = some (.int .i64 (n : Int)) ∧ w.cell? ⟨g, 1, none⟩ = some (.slice (some ⟨h, 0, none⟩) l.length l.length) :=
  ⟨by rw [s.obj.cell]; rfl, by rw [s.obj.cell]; rfl⟩
theorem SetIn.byte (s : SetIn w B g h n l) {k : Nat} (hk : k < l.length) : w.cell? ⟨h, k, none⟩ = some (.int .u8 ((l.getD k 0 : Nat) : Int)) := by
  rw [s.row.cell]
  simp [bs, List.getD_eq_getElem?_getD, hk]
theorem SetIn.reads (s : SetIn w B g h n l) : Reads w w.heap.size 1 (some ⟨h, 0, none⟩) l.length (bs l) :=
  reads_blk s.row _ _ _ s.row.lt (bs_length l) (by simp [bs_length, List.take_of_length_le])
end
theorem made_bytes (n : Nat) : madeCells #[Value.int .u8 0] n = (bs (List.replicate n 0)).toArray := by
  apply Array.ext
  · simp [size_madeCells, bs]
  · intro i h1 h2
    simp [madeCells, bs, Nat.mod_one]
theorem run_make_u8n (n : Nat) (hn : n ≤ 281474976710656) (w : World) :
    (Instr.makeSlice 33 (.int .i64 (n : Int)) (.int .i64 (n : Int))).run Try.prog w = .ok (.slice (some ⟨w.heap.size, 0, none⟩) n n) (w.alloc (.cells (bs (List.replicate n 0)).toArray 5)) := by
  obtain ⟨i, hi, hz0, hz1, hz2⟩ := info_parts info_u8
  have hr := run_make (P := Try.prog) w 33 5 i _ Try.underlying33 hi hz0 .i64 .i64 n n (by omega) (by omega) (by rw [hz2]; omega) (by omega)
  rw [hz1] at hr
  rw [← made_bytes]
  simpa [Value.cells] using hr
/-- What a function answers that makes a set. -/
def NewS (w : World) (n : Nat) (l : List Nat) (e : Ending) (w' : World) : Prop := ∃ g h, e = .returned (.pointer (some ⟨g, 0, none⟩)) ∧ SetIn w' w.heap.size g h n l ∧ Below w.heap.size w w'
theorem made_set (w : World) (n : Nat) (l : List Nat) (m : Nat) (hm : l.length = m) (hn : n ≤ 65536) (hl : OkS n l) :
    SetIn ((w.alloc (.cells (bs l).toArray 5)).alloc (.cells #[.int .i64 (n : Int), .slice (some ⟨w.heap.size, 0, none⟩) m m] 47)) w.heap.size (w.heap.size + 1) w.heap.size n l := by
  subst hm
  refine ⟨hl, hn, ?_, (Blk.new w _ _).alloc _, by omega, by omega⟩
  have h := Blk.new (w.alloc (.cells (bs l).toArray 5)) 47 #[.int .i64 (n : Int), .slice (some ⟨w.heap.size, 0, none⟩) l.length l.length]
  simpa using h
end Go.Proofs.Ytgfpemndbgdhdaa
