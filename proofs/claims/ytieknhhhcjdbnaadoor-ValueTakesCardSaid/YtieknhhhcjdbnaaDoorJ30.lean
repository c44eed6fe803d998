/- Texts joined: VSame VGreat VlSame15 ReadsP VlSameR TxCmp VlGtr. -/
import Derived.Deep.QuietTactic
import Derived.BigQuiet
import Derived.Test.YtieknhhhcjdbnaaDoorJ21
import Derived.Test.YtieknhhhcjdbnaaDoorJ12
import Derived.Test.YtieknhhhcjdbnaaDoorJ22
import Derived.Test.YtieknhhhcjdbnaaDoorWords
import Derived.Test.YtieknhhhcjdbnaaDoorJ24
import Derived.Test.YtieknhhhcjdbnaaDoorJ10
import Derived.Laws.Strings
/- Contract of the statements' own Same over a column's values: it answers true of the same values; nothing changes. -/
namespace Go.Proofs.YtieknhhhcjdbnaaDoor
open Go.RowKit
set_option linter.unusedVariables false
set_option linter.unusedSimpArgs false
set_option maxRecDepth 100000

set_option maxHeartbeats 400000 in
theorem sameV_true (A A' : Option Addr) (n c c' : Nat) (l : List (Int × Int × Tx)) (w : World) (h1 : Reads w w.heap.size 3 A n (vs l)) (h2 : Reads w w.heap.size 3 A' n (vs l)) (hn : n ≤ 65536) :
    Calls Tryd.prog 39 #[.slice A n c, .slice A' n c'] w fun e w' => e = .returned (.bool true) ∧ Drawn w w' := by
  have e1 : l.length = n := by have := h1.1; rw [vs_length] at this; omega
  go_enter Tryd.func39, Tryd.ntmps39
  go_wp2_with fail
  go_loopw [5] (fun i wr => ∃ k : Nat, k ≤ n ∧ i = .int .i64 (k : Int) ∧ ∃ q, wr = w.drewN q) (fun i _ => n - (intOf i).toNat)
  case atStart => exact ⟨0, Nat.zero_le _, rfl, 0, rfl⟩
  case round =>
    obtain ⟨k, hk, rfl, q, rfl⟩ := hrel
    by_cases hlt : k < n
    · obtain ⟨⟨v0, v1, v2⟩, hv⟩ : ∃ v, l[k]? = some v := ⟨_, List.getElem?_eq_getElem (by omega)⟩
      obtain ⟨b, o, rfl, hb, x0, x1, x2⟩ := h1.val hv
      obtain ⟨b', o', rfl, hb', y0, y1, y2⟩ := h2.val hv
      have q1 : (v2 == v2) = true := by simp
      clear hv e1
      go_wp2_with fail
      go_quiet (fail)
      go_wp2_with fail
      exact ⟨⟨k + 1, by omega, by go_num, _, rfl⟩, by simp [intOf]; omega⟩
    · go_wp2_with fail
      go_ret
      exact ⟨rfl, _, rfl⟩
end Go.Proofs.YtieknhhhcjdbnaaDoor

/- Contract of the statements' own Great over a column's values: are there more, or longer texts, than are looked at? Nothing changes. -/
namespace Go.Proofs.YtieknhhhcjdbnaaDoor
open Go.RowKit
set_option linter.unusedVariables false
set_option linter.unusedSimpArgs false
set_option maxRecDepth 100000

/-- More than 'm', or one of the first 'm' is longer than 'q'. -/
def grV (l : List (Int × Int × Tx)) (m q : Nat) : Bool := decide (m < l.length) || (l.take m).any fun s => decide (q < s.2.2.length)
theorem grV_false {l : List (Int × Int × Tx)} {m q : Nat} (h : grV l m q = false) : l.length ≤ m ∧ ∀ s ∈ l, s.2.2.length ≤ q := by
  unfold grV at h
  rw [Bool.or_eq_false_iff] at h
  obtain ⟨h1, h2⟩ := h
  have h3 : l.length ≤ m := by simpa using h1
  rw [List.take_of_length_le h3] at h2
  refine ⟨h3, fun s hs => ?_⟩
  have := List.any_eq_false.1 h2 s hs
  simpa using this
set_option maxHeartbeats 400000 in
theorem greatV_any (A : Option Addr) (n c m q : Nat) (l : List (Int × Int × Tx)) (w : World) (hr : Reads w w.heap.size 3 A n (vs l)) (hm : m ≤ 1000) (hq : q ≤ 1000) (g : Bool) (hg : g = grV l m q) :
    Calls Tryd.prog 42 #[.slice A n c, .int .i64 (m : Int), .int .i64 (q : Int)] w fun e w' => e = .returned (.bool g) ∧ w = w' := by
  have e1 : l.length = n := by have := hr.1; rw [vs_length] at this; omega
  have HE : Hid (l.length = n) := Lib.hid e1
  have HG := Lib.hid hg
  clear e1 hg
  go_enter Tryd.func42, Tryd.ntmps42
  go_wp2_with fail
  go_loop [7] (fun i => ∃ k : Nat, k ≤ n ∧ k ≤ m ∧ i = .int .i64 (k : Int) ∧ Hid (∀ s ∈ l.take k, s.2.2.length ≤ q)) (fun i => n - (intOf i).toNat)
  case atStart => exact ⟨0, Nat.zero_le _, Nat.zero_le _, rfl, Lib.hid (by simp)⟩
  case round =>
    obtain ⟨k, hk, hkm, rfl, HA⟩ := hrel
    have hend : ¬ (k < n ∧ k < m) → Hid (g = decide (m < n)) := fun h => Lib.hid (by
      rw [HG.out]
      unfold grV
      rw [HE.out]
      by_cases h1 : m < n
      · simp [h1]
      · have h2 : ((l.take m).any fun s => decide (q < s.2.2.length)) = false := by
          rw [List.any_eq_false]
          intro s hs
          have hkn : n ≤ k := by omega
          have := HA.out s (by
            rw [List.take_of_length_le (by rw [HE.out]; exact hkn)]
            exact List.mem_of_mem_take hs)
          simpa using this
        rw [h2]; simp)
    by_cases hlt : k < n
    · by_cases hltm : k < m
      · obtain ⟨⟨v0, v1, z⟩, hz⟩ : ∃ v, l[k]? = some v := ⟨_, List.getElem?_eq_getElem (by rw [HE.out]; omega)⟩
        obtain ⟨b, o, rfl, hb, x0, x1, x2⟩ := hr.val hz
        have hzs : (⟨z.toArray⟩ : ByteArray).size = z.length := by simp [ByteArray.size]
        by_cases hzl : q < z.length
        · have HR : Hid (g = true) := Lib.hid (by
            rw [HG.out]
            unfold grV
            rw [Bool.or_eq_true]
            refine .inr (List.any_eq_true.2 ⟨(v0, v1, z), ?_, by simp [hzl]⟩)
            rw [List.mem_take_iff_getElem]
            obtain ⟨h1, h2⟩ := List.getElem?_eq_some_iff.1 hz
            exact ⟨k, by omega, h2⟩)
          clear hz hend
          go_wp2_with fail
          go_ret
          exact ⟨by rw [HR.out]; rfl, rfl⟩
        · have HA2 : Hid (∀ s ∈ l.take (k + 1), s.2.2.length ≤ q) := Lib.hid (by
            rw [take_snoc hz]
            intro s hs
            rcases List.mem_append.1 hs with hs | hs
            · exact HA.out s hs
            · rw [List.mem_singleton] at hs; subst hs; simp only []; omega)
          clear hz hend
          go_wp2_with fail
          go_round
          case rel => exact ⟨k + 1, by omega, by omega, by go_num, HA2⟩
          case measure => simp [intOf]; omega
      · have HR := hend (fun h => hltm h.2)
        clear hend
        by_cases hmn : m < n
        · have d1 : decide (m < n) = true := by simp [hmn]
          go_wp2_with fail
          go_ret
          exact ⟨by rw [HR.out, d1]; rfl, rfl⟩
        · omega
    · have HR := hend (fun h => hlt h.1)
      clear hend
      by_cases hmn : m < n
      · omega
      · have d1 : decide (m < n) = false := by simp; omega
        go_wp2_with fail
        go_ret
        exact ⟨by rw [HR.out, d1]; rfl, rfl⟩
end Go.Proofs.YtieknhhhcjdbnaaDoor

/- Contracts of the statements' own SameSchema, SameRows, GreatRows (estreatref15). Nothing that was there changes. -/
namespace Go.Proofs.YtieknhhhcjdbnaaDoor
open Go.RowKit
set_option linter.unusedVariables false
set_option linter.unusedSimpArgs false
set_option maxRecDepth 100000

set_option maxHeartbeats 400000 in
theorem sameS_true (A A' : Option Addr) (n c c' : Nat) (l : List Cl) (w : World) (h1 : Reads w w.heap.size 3 A n (cls l)) (h2 : Reads w w.heap.size 3 A' n (cls l)) (hn : n ≤ 65536) :
    Calls Tryd.prog 10 #[.slice A n c, .slice A' n c'] w fun e w' => e = .returned (.bool true) ∧ Drawn w w' := by
  have e1 : l.length = n := by have := h1.1; rw [cls_length] at this; omega
  go_enter Tryd.func10, Tryd.ntmps10
  go_wp2_with fail
  go_loopw [5] (fun i wr => ∃ k : Nat, k ≤ n ∧ i = .int .i64 (k : Int) ∧ ∃ q, wr = w.drewN q) (fun i _ => n - (intOf i).toNat)
  case atStart => exact ⟨0, Nat.zero_le _, rfl, 0, rfl⟩
  case round =>
    obtain ⟨k, hk, rfl, q, rfl⟩ := hrel
    by_cases hlt : k < n
    · obtain ⟨⟨v0, v1, v2⟩, hv⟩ : ∃ v, l[k]? = some v := ⟨_, List.getElem?_eq_getElem (by omega)⟩
      obtain ⟨b, o, rfl, hb, x0, x1, x2⟩ := h1.col hv
      obtain ⟨b', o', rfl, hb', y0, y1, y2⟩ := h2.col hv
      have q1 : (v1 == v1) = true := by simp
      clear hv e1
      go_wp2_with fail
      go_quiet (fail)
      go_wp2_with fail
      exact ⟨⟨k + 1, by omega, by go_num, _, rfl⟩, by simp [intOf]; omega⟩
    · go_wp2_with fail
      go_ret
      exact ⟨rfl, _, rfl⟩
end Go.Proofs.YtieknhhhcjdbnaaDoor

/- What is read at a place of a slice: its address is a plain one. No program; no condition. -/
namespace Go.Proofs.YtieknhhhcjdbnaaDoor
open Go.RowKit
set_option linter.unusedVariables false
set_option linter.unusedSimpArgs false
set_option maxRecDepth 100000

theorem reads_plain2 {w : World} {B size n k : Nat} {A : Option Addr} {xs : List Value} {u : Value} (h : Reads w B size A n xs) (hn : 0 < n) (hu : xs[k]? = some u) : ∃ b off, A = some ⟨b, off, none⟩ ∧ b < B ∧ ∀ j u, xs[j]? = some u → w.cell? ⟨b, off + j, none⟩ = some u := by
  obtain ⟨⟨b, off, sp⟩, rfl, hb, hc⟩ := h.2 hn
  have hl : 0 < xs.length := by have := (List.getElem?_eq_some_iff.1 hu).1; omega
  have h0 := hc 0 _ (List.getElem?_eq_getElem hl)
  have hsp : sp = none := by simpa [Addr.add] using World.cell?_spot h0
  subst hsp
  exact ⟨b, off, rfl, hb, fun j u hu => by have := hc j u hu; rwa [plain_add] at this⟩
end Go.Proofs.YtieknhhhcjdbnaaDoor

/- Contract of the statements' own SameRows: it answers true of the same rows. Nothing that was there changes. -/
namespace Go.Proofs.YtieknhhhcjdbnaaDoor
open Go.RowKit
set_option linter.unusedVariables false
set_option linter.unusedSimpArgs false
set_option maxRecDepth 100000

set_option maxHeartbeats 1000000 in
theorem sameR_true (A A' : Option Addr) (c c' : Nat) (rows : List (List (Int × Int × Tx))) (w : World) (h1 : VV w A rows) (h2 : VV w A' rows) (hn : rows.length ≤ 9223372036854775807) (hm : ∀ r ∈ rows, r.length ≤ 65536) :
    Calls Tryd.prog 13 #[.slice A rows.length c, .slice A' rows.length c'] w fun e w' => e = .returned (.bool true) ∧ Drawn w w' := by
  obtain ⟨n, e1⟩ : ∃ n, rows.length = n := ⟨_, rfl⟩
  obtain ⟨us, hu, hus⟩ := h1
  obtain ⟨us', hu', hus'⟩ := h2
  rw [e1] at hu hu' hn ⊢
  have HE := Lib.hid e1; have HM := Lib.hid hm; have HU := Lib.hid hus; have HU' := Lib.hid hus'
  clear e1 hm hus hus'
  go_enter Tryd.func13, Tryd.ntmps13
  go_wp2_with fail
  go_loopw [5] (fun i wr => ∃ k : Nat, k ≤ n ∧ i = .int .i64 (k : Int) ∧ ∃ q, wr = w.drewN q) (fun i _ => n - (intOf i).toNat)
  case atStart => exact ⟨0, Nat.zero_le _, rfl, 0, rfl⟩
  case round =>
    obtain ⟨k, hk, rfl, q, rfl⟩ := hrel
    by_cases hlt : k < n
    · obtain ⟨r, hz⟩ : ∃ r, rows[k]? = some r := ⟨_, List.getElem?_eq_getElem (by rw [HE.out]; omega)⟩
      obtain ⟨u, hu1, A2, c2, rfl, hrr⟩ := HU.out k r hz
      obtain ⟨u', hu1', A3, c3, rfl, hrr'⟩ := HU'.out k r hz
      obtain ⟨bb, oo, rfl, hbb, hcell⟩ := reads_plain2 hu (by omega) hu1
      obtain ⟨bb', oo', rfl, hbb', hcell'⟩ := reads_plain2 hu' (by omega) hu1'
      have hck := hcell k _ hu1
      have hck' := hcell' k _ hu1'
      have hrl := HM.out r (List.mem_of_getElem? hz)
      have hS := fun W (hW : Drawn w W) => sameV_true A2 A3 r.length c2 c3 r W (hrr.next (hW.below (Below.refl w.heap.size w))) (hrr'.next (hW.below (Below.refl w.heap.size w))) (by omega)
      obtain ⟨m, hmm⟩ : ∃ m, r.length = m := ⟨_, rfl⟩
      rw [hmm] at hck hck' hS
      have HS := Lib.hid fun q => hS (w.drewN q) (Drawn.one w q)
      clear hz hcell hcell' hu1 hu1' hrr hrr' hrl hS hmm
      go_wp2_with fail
      go_quiet ((go_at_call 39; first | exact quiet_drawn (HS.out _) | exact quiet_drawn0 (HS.out _)))
      go_wp2_with fail
      exact ⟨⟨k + 1, by omega, by go_num, _, rfl⟩, by simp [intOf]; omega⟩
    · go_wp2_with fail
      go_ret
      exact ⟨rfl, _, rfl⟩
end Go.Proofs.YtieknhhhcjdbnaaDoor

/- How the model orders texts: the laws of '>=' and '<=' on them, and their order as a truth. No program, no condition. -/
namespace Go.Proofs.YtieknhhhcjdbnaaDoor
open Go.RowKit
theorem dec_tlt (a b : Tx) : decide (tlt a b) = Op.bytesLess a b := by rw [Bool.eq_iff_iff, decide_eq_true_iff]; exact Iff.rfl
theorem less_of {a b : Tx} (h : tlt a b) : Op.bytesLess a b = true := h
theorem less_not {a b : Tx} (h : ¬ tlt a b) : Op.bytesLess a b = false := by rw [← dec_tlt]; simp [h]
theorem binOp_geq_tx (t : TypeId) (a b : List UInt8) : binOp .geq t (.string ⟨a.toArray⟩) (.string ⟨b.toArray⟩) = pure (.bool !(decide (tlt a b))) := by
  rw [dec_tlt]; simp [binOp, Op.stringOp]
theorem binOp_leq_tx (t : TypeId) (a b : List UInt8) : binOp .leq t (.string ⟨a.toArray⟩) (.string ⟨b.toArray⟩) = pure (.bool !(decide (tlt b a))) := by
  have h : (Op.bytesLess a b || a == b) = !(decide (tlt b a)) := by
    by_cases h1 : tlt a b
    · rw [less_of h1, show decide (tlt b a) = false by simp [tlt_asymm h1]]; rfl
    · rw [less_not h1]
      by_cases h2 : a = b
      · subst h2
        rw [show decide (tlt a a) = false by simp [tlt_irrefl a]]; simp
      · rw [show decide (tlt b a) = true by simp [tlt_total h1 h2]]; simp [h2]
  rw [← h]; simp [binOp, Op.stringOp]
end Go.Proofs.YtieknhhhcjdbnaaDoor

/- The order of texts, by ">". No program; no condition. -/
namespace Go.Proofs.YtieknhhhcjdbnaaDoor
open Go.RowKit
set_option linter.unusedVariables false
set_option linter.unusedSimpArgs false
set_option maxRecDepth 100000

theorem binOp_gtr_tx (t : TypeId) (a b : List UInt8) : binOp .gtr t (.string ⟨a.toArray⟩) (.string ⟨b.toArray⟩) = pure (.bool (decide (tlt b a))) := by
  have h : (!(Op.bytesLess a b || a == b)) = decide (tlt b a) := by
    by_cases h1 : tlt a b
    · rw [less_of h1, show decide (tlt b a) = false by simp [tlt_asymm h1]]; rfl
    · rw [less_not h1]
      by_cases h2 : a = b
      · subst h2
        rw [show decide (tlt a a) = false by simp [tlt_irrefl a]]; simp
      · rw [show decide (tlt b a) = true by simp [tlt_total h1 h2]]; simp [h2]
  rw [← h]; simp [binOp, Op.stringOp]
end Go.Proofs.YtieknhhhcjdbnaaDoor
