/- Texts joined: ReadsP Laid TxVal TxConv Copied. -/
import Derived.Test.YtieknhhhcjdbnaaWords
import Derived.Lib.SlBytesConst
import Derived.Test.YtieknhhhcjdbnaaJ18
import Derived.Sort.EncStr
import Derived.Laws.IdiomStrings
import Derived.Test.YtieknhhhcjdbnaaTxPlain
import Derived.Deep.QuietTactic
import Derived.BigQuiet
import Derived.Test.YtieknhhhcjdbnaaJ4
/- What is read at a place of a slice: its address is a plain one. No program; no condition. -/
namespace Go.Proofs.Ytieknhhhcjdbnaa
open Go.RowKit
set_option linter.unusedVariables false
set_option linter.unusedSimpArgs false
set_option maxRecDepth 100000

theorem reads_plain2 {w : World} {B size n k : Nat} {A : Option Addr} {xs : List Value} {u : Value} (h : Reads w B size A n xs) (hn : 0 < n) (hu : xs[k]? = some u) : ∃ b off, A = some ⟨b, off, none⟩ ∧ b < B ∧ ∀ j u, xs[j]? = some u → w.cell? ⟨b, off + j, none⟩ = some u := by
  obtain ⟨⟨b, off, sp⟩, rfl, hb, hc⟩ := h.2 hn
  have hl : 0 < xs.length := by have := (List.getElem?_eq_some_iff.1 hu).1; omega
  have h0 := hc 0 _ (List.getElem?_eq_getElem hl)
  have hsp : sp = none := by simpa [Addr.add] using World.cell?_spot h0
  subst hsp
  exact ⟨b, off, rfl, hb, fun j u hu => by have := hc j u hu; rwa [plain_add] at this⟩
end Go.Proofs.Ytieknhhhcjdbnaa

/- A row that was laid last reads as its cells, whatever is frozen of it. No program. -/
namespace Go.Proofs.Ytieknhhhcjdbnaa
open Go.RowKit

/-- A row that was laid last reads as its cells, whatever is frozen of it. -/
theorem reads_laid (w : World) (cs : Array Value) (t : TypeId) (fr : Nat × Nat) (B n : Nat) (xs : List Value) (hB : w.heap.size < B) (hn : xs.length = n) (hx : cs.toList.take n = xs) :
    Reads (w.alloc (.cells cs t fr)) B 1 (some ⟨w.heap.size, 0, none⟩) n xs := by
  refine ⟨by omega, fun _ => ⟨_, rfl, hB, fun j u hu => ?_⟩⟩
  rw [plain_add, Nat.zero_add, cell_of_row _ _ j cs t fr (heap_alloc_new w _)]
  subst hx
  rw [List.getElem?_take] at hu
  split at hu
  · simpa using hu
  · cases hu
end Go.Proofs.Ytieknhhhcjdbnaa

/- Texts as values, one behind the other. No program; no condition. -/
namespace Go.Proofs.Ytieknhhhcjdbnaa
open Go.RowKit
set_option linter.unusedVariables false
set_option linter.unusedSimpArgs false
set_option maxRecDepth 100000

/-- Texts as values. -/
def ts (l : List (List UInt8)) : List Value := l.map Go.Proofs.encStr
theorem ts_length (l : List (List UInt8)) : (ts l).length = l.length := by simp [ts]
theorem ts_nil : ts [] = [] := rfl
theorem ts_append (l m : List (List UInt8)) : ts (l ++ m) = ts l ++ ts m := by simp [ts]
theorem ts_take (l : List (List UInt8)) (k : Nat) : (ts l).take k = ts (l.take k) := by simp [ts]
theorem ts_drop (l : List (List UInt8)) (k : Nat) : (ts l).drop k = ts (l.drop k) := by simp [ts]
theorem ts_one (l : List (List UInt8)) : ∀ u ∈ ts l, u.oneCell' = true := by
  intro u hu
  obtain ⟨b, _, rfl⟩ := List.mem_map.1 hu
  rfl
theorem ts_at {l : List (List UInt8)} {k : Nat} {u : Value} (h : (ts l)[k]? = some u) : ∃ b, l[k]? = some b ∧ u = .string ⟨b.toArray⟩ := by
  unfold ts at h
  rw [List.getElem?_map] at h
  cases hb : l[k]? with
  | none => rw [hb] at h; cases h
  | some b => rw [hb] at h; injection h with h; exact ⟨b, rfl, h.symm⟩
theorem ts_get {l : List (List UInt8)} {k : Nat} {z : List UInt8} (h : l[k]? = some z) : (ts l)[k]? = some (.string ⟨z.toArray⟩) := by unfold ts; rw [List.getElem?_map, h]; rfl
theorem ts_snoc (xs : List Value) (l : List (List UInt8)) (b : List UInt8) : xs ++ ts l ++ [Value.string ⟨b.toArray⟩] = xs ++ ts (l ++ [b]) := by simp [ts]
theorem ts_same {x y : List UInt8} : ((⟨x.toArray⟩ : ByteArray) = ⟨y.toArray⟩) ↔ x = y := by
  constructor
  · intro h; have h2 := congrArg (fun b : ByteArray => b.data.toList) h; simpa using h2
  · intro h; rw [h]
theorem size_enc (x : List UInt8) : (⟨x.toArray⟩ : ByteArray).size = x.length := by simp [ByteArray.size]
end Go.Proofs.Ytieknhhhcjdbnaa

/- Texts as bytes in new memory, over this program. No condition. -/
namespace Go.Proofs.Ytieknhhhcjdbnaa
open Go.RowKit
set_option linter.unusedVariables false
set_option linter.unusedSimpArgs false
set_option maxRecDepth 100000

/-- The room of the new bytes, and the world behind them. -/
def convC (W : World) (s : Tx) : Nat := grownCap W s.length 0 5
def convW (W : World) (s : Tx) : World := W.drew.alloc (.cells (bytesRow ⟨s.toArray⟩ (convC W s)) 5 ((bytesRow ⟨s.toArray⟩ (convC W s)).size, (bytesRow ⟨s.toArray⟩ (convC W s)).size + 1))
theorem conv_is (s : Tx) (W : World) : (convert 9 36 (.string ⟨s.toArray⟩)).run Try.prog W = .ok (.slice (some ⟨W.heap.size, 0, none⟩) s.length (convC W s)) (convW W s) := by
  have h := run_bytes_of_string (P := Try.prog) W 9 36 5 ⟨s.toArray⟩ Try.underlying9 Try.underlying36 Try.underlying5
  rw [size_enc] at h
  exact h
theorem conv_below (W : World) (s : Tx) : Below W.heap.size W (convW W s) := (Below.drew (Below.refl W.heap.size W)).alloc (Nat.le_refl _) _
theorem conv_reads (W : World) (s : Tx) : Reads (convW W s) (convW W s).heap.size 1 (some ⟨W.heap.size, 0, none⟩) s.length (bs (nb s)) := by
  refine reads_laid W.drew _ _ _ _ _ _ ?_ (by rw [bs_length, nb_length]) ?_
  · unfold convW; simp
  · unfold bytesRow
    rw [Array.toList_append, List.take_append_of_le_length (by simp), List.take_of_length_le (by simp)]
    simp [bs, nb]
theorem blob_nb (s : Tx) : vb (nb s).length ++ nb s = blbT s := by unfold blbT; rw [nb_length]
end Go.Proofs.Ytieknhhhcjdbnaa

/- Contract of package num's copied: bytes in new memory. -/
namespace Go.Proofs.Ytieknhhhcjdbnaa
open Go.RowKit
set_option linter.unusedVariables false
set_option linter.unusedSimpArgs false
set_option maxRecDepth 100000

theorem copied_any (A : Option Addr) (n c more : Nat) (xs : List Value) (w : World) (hr : Reads w w.heap.size 1 A n xs) (h1 : ∀ u ∈ xs, u.oneCell' = true) (hb : n + more ≤ 140737488355328) :
    Calls Try.prog 43 #[.slice A n c, .int .i64 (more : Int)] w fun e w' => ∃ v, e = .returned v ∧ w'.ownsRow w.heap.size 5 1 v n xs ∧ Below w.heap.size w w' := by
  obtain ⟨i0, hi0, hz0, hz1, hz2⟩ := info_parts info_u8
  have hmk : ∀ W : World, (Instr.makeSlice 36 (.int .i64 0) (.int .i64 ((n : Int) + (more : Int)))).run Try.prog W = .ok (.slice (some ⟨W.heap.size, 0, none⟩) 0 (n + more)) (W.alloc (.cells (madeCells #[.int .u8 0] (n + more)) 5)) := fun W => run_make_u8 (n + more) (by omega) W
  have hown0 : (w.alloc (.cells (madeCells #[.int .u8 0] (n + more)) 5)).ownsRow w.heap.size 5 1 (.slice (some ⟨w.heap.size, 0, none⟩) 0 (n + more)) 0 [] :=
    World.ownsRow_made w _ _ (Nat.le_refl _) (by unfold maxLen; omega) (by rw [size_madeCells]; omega)
  go_enter Try.func43, Try.ntmps43
  go_wp2_with (at_builtin
               refine wpList_append_any _ rfl (.tmp 9) (.tmp 10) _ rfl w.heap.size 5 i0 _ 1 1 Try.underlying36 hi0 hz0 hz1 hz2 rfl (by omega) (.slice (some ⟨w.heap.size, 0, none⟩) 0 (n + more)) 0 [] rfl
                 hown0 w.heap.size A n c xs rfl (hr.alloc (Nat.le_refl _) _) h1 (by unfold maxLen; omega) (by omega) (by simp) ?_
               intro v1 w1 hown1 hg1 hat1)
  go_ret
  exact ⟨v1, rfl, by simpa using hown1, ((Below.refl _ _).alloc (Nat.le_refl _) _).grown hg1 (by simp) (fun k hk => by simp [Value.ownBlock] at hk; omega)⟩
end Go.Proofs.Ytieknhhhcjdbnaa
