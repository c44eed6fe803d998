/- Texts joined: TxGet TxSame TxGreat. -/
import Derived.Test.YtppeagjklndidaaDoorJ40
import Derived.Test.YtppeagjklndidaaDoorTxReadL
import Derived.Test.YtppeagjklndidaaDoorJ27
import Derived.Deep.QuietTactic
import Derived.BigQuiet
import Derived.Test.YtppeagjklndidaaDoorJ8
import Derived.Test.YtppeagjklndidaaDoorTxPlain
/- Contract of package texts' Get: the texts in new memory, or the error's number. -/
namespace Go.Proofs.YtppeagjklndidaaDoor
open Go.RowKit
set_option linter.unusedVariables false
set_option linter.unusedSimpArgs false
set_option maxRecDepth 100000

theorem txGet_no (A : Option Addr) (n c : Nat) (b : List Nat) (k : Int) (w : World) (h : k < 0 ∨ 65536 < k) :
    Calls Tryd.prog 14 #[.slice A n c, .int .i64 k] w (NewTE w (txG b k) (txE b k)) := by
  obtain ⟨h1, h2⟩ := txE_bad (b := b) h
  rw [h1, h2]
  have HC := Lib.hid (pcGetS_no A n c k (.func (.func 30) #[] #[]) w h)
  clear h1 h2 h
  go_enter Tryd.func14, Tryd.ntmps14
  go_wp2_with fail
  refine HC.out.mono ?_
  rintro e w1 ⟨rfl, rfl⟩
  go_wp2_with fail
  go_ret2
  exact ⟨.slice none 0 0, rfl, own_nil _ _ _ _, Below.refl _ _⟩
theorem txS_fit {b : List Nat} (hb : ∀ x ∈ b, x < 256) {N : Nat} (hN : N ≤ 65536) (hE : txE b (N : Int) = 0) : (txS b N).1.length = N ∧ ∀ a ∈ (txS b N).1, a < (rdt b N).2.length := by
  obtain ⟨z1, z2, z3⟩ := txE_zero hN hE
  obtain ⟨h1, h2, h3, _⟩ := txG_rest hb hN z2 z3 hE
  have hr : rdt b N = ((tdS b (vv b 0)).1, tdL b (vv b 0)) := by unfold rdt; rw [if_neg z2]
  have hP : (txS b N).1 = unpackS (b.drop ((tdS b (vv b 0)).1.1 + 1)) (N : Int) (blen (vv b 0 - 1) : Int) := by
    unfold txS
    rw [hr]
    simp only
    rw [z3, tdL_length]
    rw [rp_rest b _ N _ h1]
  obtain ⟨_, _, p3, _⟩ := pack_again (b.drop ((tdS b (vv b 0)).1.1 + 1)) (N : Int) (blen (vv b 0 - 1) : Int) (fun x hx => hb x (List.mem_of_mem_drop hx)) h2
  obtain ⟨w1, _⟩ := whE_zero h3
  rw [hP, hr]
  simp only
  rw [tdL_length]
  exact ⟨by rw [p3]; simp, w1⟩
theorem rdt_length {b : List Nat} {N : Nat} (hN : N ≤ 65536) : (rdt b N).2.length ≤ 65536 := by
  unfold rdt
  split
  · simp
  · rename_i h; simp only; rw [tdL_length]; omega
theorem rdt_ok (b : List Nat) (N : Nat) (y : Int × Nat) (h : (rdt b N).1.2 = some y) : y.1 ≠ 0 := by
  unfold rdt at h
  split at h
  · simp only at h
    cases hx : (vst b 1).2 with
    | some z =>
      rw [hx] at h
      injection h with h
      subst h
      exact vst_ok b 1 z hx
    | none =>
      rw [hx, failS_none _ _ (by omega)] at h
      injection h with h
      subst h
      simp
  · exact tdS_ok b _ y h
/-- What readList hands out. -/
def ReadQ (b : List Nat) (N : Nat) (X : List Value) : Prop := ∃ L : List Tx, X = ts L ∧ L.length ≤ N ∧ ((rdt b N).1.2 = none → L = (rdt b N).2)
theorem readLT_any {w : World} {g : Nat} {b : List Nat} (n : Nat) (h : RdS w g b 0 none) (hn : n ≤ 65536) (hmet : Met w) :
    Calls Tryd.prog 30 #[.pointer (some ⟨g, 0, none⟩), .int .i64 (n : Int)] w (ReadLT w g b n) := by
  by_cases hc : n < vv b 0
  · exact readLT_much n h hn hmet hc
  · exact readLT_ok n h hn hmet hc
theorem readQ_fit {b : List Nat} (hb : ∀ x ∈ b, x < 256) {N : Nat} (hN : N ≤ 65536) {X : List Value} (hX : ReadQ b N X) : X.length ≤ 65536 ∧ (endS b (rpS b (rdt b N).1.1 (rdt b N).1.2 N X.length).2.1 (rpS b (rdt b N).1.1 (rdt b N).1.2 N X.length).2.2).1 = txE b (N : Int) ∧
    (txE b (N : Int) = 0 → (rpS b (rdt b N).1.1 (rdt b N).1.2 N X.length).1.length = N ∧ (ts (txG b (N : Int))).length = N ∧ ∀ (k p : Nat), (rpS b (rdt b N).1.1 (rdt b N).1.2 N X.length).1[k]? = some p → ∃ u : ByteArray, X[p]? = some (.string u) ∧ (ts (txG b (N : Int)))[k]? = some (.string u)) := by
  obtain ⟨L, rfl, hL, hQ⟩ := hX
  rw [ts_length]
  cases hx : (rdt b N).1.2 with
  | some y =>
    have hy := rdt_ok b N y hx
    have hE := txE_some hN hy hx
    refine ⟨by omega, ?_, fun h0 => ?_⟩
    · rw [rp_some, hE, endS_some _ _ _ hy]
    · rw [hE] at h0; exact absurd h0 hy
  | none =>
    obtain rfl := hQ hx
    have hS : rpS b (rdt b N).1.1 none N (rdt b N).2.length = txS b N := by unfold txS; rw [hx]
    rw [hS]
    have hE : txE b (N : Int) = (endS b (txS b N).2.1 (txS b N).2.2).1 := by unfold txE; rw [if_neg (by omega), Int.toNat_natCast]
    refine ⟨rdt_length hN, hE.symm, fun h0 => ?_⟩
    have hG : txG b (N : Int) = (txS b N).1.map (fun a => ((rdt b N).2[a]?).getD []) := by unfold txG; rw [if_pos h0, Int.toNat_natCast]
    obtain ⟨f1, f2⟩ := txS_fit hb hN h0
    refine ⟨f1, by rw [ts_length, hG, List.length_map, f1], fun k p hp => ?_⟩
    have hz : (rdt b N).2[p]? = some ((rdt b N).2[p]'(f2 p (List.mem_of_getElem? hp))) := List.getElem?_eq_getElem _
    refine ⟨_, ts_get hz, ts_get ?_⟩
    rw [hG, List.getElem?_map, hp]
    simp [hz]
theorem txGet_ok (A : Option Addr) (n c N : Nat) (b : List Nat) (w : World) (hr : Reads w w.heap.size 1 A n (bs b)) (hb : ∀ x ∈ b, x < 256) (hn : n ≤ 140737488355328) (hN : N ≤ 65536) (hmet : Met w) :
    Calls Tryd.prog 14 #[.slice A n c, .int .i64 (N : Int)] w (NewTE w (txG b (N : Int)) (txE b (N : Int))) := by
  have HC := Lib.hid (pcGetS_any A n c N b (rdt b N).1.1 (rdt b N).1.2 (ReadQ b N) (txE b (N : Int)) (ts (txG b (N : Int))) w hr hb hn hN hmet
    (fun w g hm h => (readLT_any N h hN hm).mono fun e w' ⟨v, X, h1, h2, h3, h4⟩ => ⟨v, ts X, h1, by rw [ts_length]; exact h2, ⟨X, rfl, h3.1, h3.2⟩, h4⟩)
    (fun X hX => readQ_fit hb hN hX)
    (fun h0 => by unfold txG; rw [if_neg h0]; rfl))
  go_enter Tryd.func14, Tryd.ntmps14
  go_wp2_with fail
  refine HC.out.mono ?_
  rintro e w1 ⟨v, rfl, hown, hb1⟩
  go_wp2_with fail
  go_ret2
  exact ⟨v, rfl, by rw [ts_length] at hown; exact hown, hb1⟩
theorem txGet_any (A : Option Addr) (n c : Nat) (k : Int) (b : List Nat) (w : World) (hr : Reads w w.heap.size 1 A n (bs b)) (hb : ∀ x ∈ b, x < 256) (hn : n ≤ 140737488355328) (hmet : Met w) :
    Calls Tryd.prog 14 #[.slice A n c, .int .i64 k] w (NewTE w (txG b k) (txE b k)) := by
  by_cases h : k < 0 ∨ 65536 < k
  · exact txGet_no A n c b k w h
  · obtain ⟨N, rfl⟩ : ∃ N : Nat, k = (N : Int) := ⟨k.toNat, by omega⟩
    exact txGet_ok A n c N b w hr hb hn (by omega) hmet
end Go.Proofs.YtppeagjklndidaaDoor

/- Contract of the statements' own Same over texts (layer 13's): it answers true of the same texts; nothing changes. -/
namespace Go.Proofs.YtppeagjklndidaaDoor
open Go.RowKit
set_option linter.unusedVariables false
set_option linter.unusedSimpArgs false
set_option maxRecDepth 100000

set_option maxHeartbeats 400000 in
theorem sameT_true (A A' : Option Addr) (n c c' : Nat) (l : List (List UInt8)) (w : World) (h1 : Reads w w.heap.size 1 A n (ts l)) (h2 : Reads w w.heap.size 1 A' n (ts l)) (hn : n ≤ 140737488355328) :
    Calls Tryd.prog 15 #[.slice A n c, .slice A' n c'] w fun e w' => e = .returned (.bool true) ∧ Drawn w w' := by
  go_enter Tryd.func15, Tryd.ntmps15
  go_wp2_with fail
  go_loopw [5] (fun i wr => ∃ k : Nat, k ≤ n ∧ i = .int .i64 (k : Int) ∧ ∃ q, wr = w.drewN q) (fun i _ => n - (intOf i).toNat)
  case atStart => exact ⟨0, Nat.zero_le _, rfl, 0, rfl⟩
  case round =>
    obtain ⟨k, hk, rfl, q, rfl⟩ := hrel
    by_cases hlt : k < n
    · obtain ⟨ad, u, rfl, _, hu, hc⟩ := h1.at_ hlt
      obtain ⟨ad', u', rfl, _, hu', hc'⟩ := h2.at_ hlt
      obtain ⟨b, hb, rfl⟩ := ts_at hu
      obtain ⟨b', hb', rfl⟩ := ts_at hu'
      obtain rfl : b = b' := by rw [hb] at hb'; exact Option.some.inj hb'
      have q1 : (b == b) = true := by simp
      clear hb hb' hu hu'
      go_wp2_with fail
      go_quiet (fail)
      go_wp2_with fail
      exact ⟨⟨k + 1, by omega, by go_num, _, rfl⟩, by simp [intOf]; omega⟩
    · go_wp2_with fail
      go_ret
      exact ⟨rfl, _, rfl⟩
end Go.Proofs.YtppeagjklndidaaDoor

/- Contract of the statements' own Great over texts: are there more, or longer ones, than are looked at? Nothing changes. -/
namespace Go.Proofs.YtppeagjklndidaaDoor
open Go.RowKit
set_option linter.unusedVariables false
set_option linter.unusedSimpArgs false
set_option maxRecDepth 100000

/-- More than 'm', or one of the first 'm' is longer than 'q'. -/
def grB (l : List Tx) (m q : Nat) : Bool := decide (m < l.length) || (l.take m).any fun s => decide (q < s.length)
theorem grB_false {l : List Tx} {m q : Nat} (h : grB l m q = false) : l.length ≤ m ∧ ∀ s ∈ l, s.length ≤ q := by
  unfold grB at h
  rw [Bool.or_eq_false_iff] at h
  obtain ⟨h1, h2⟩ := h
  have h3 : l.length ≤ m := by simpa using h1
  rw [List.take_of_length_le h3] at h2
  refine ⟨h3, fun s hs => ?_⟩
  have := List.any_eq_false.1 h2 s hs
  simpa using this
set_option maxHeartbeats 400000 in
theorem great_any (A : Option Addr) (n c m q : Nat) (l : List Tx) (w : World) (hr : Reads w w.heap.size 1 A n (ts l)) (hm : m ≤ 1000) (hq : q ≤ 1000) (g : Bool) (hg : g = grB l m q) :
    Calls Tryd.prog 11 #[.slice A n c, .int .i64 (m : Int), .int .i64 (q : Int)] w fun e w' => e = .returned (.bool g) ∧ w = w' := by
  have e1 : l.length = n := by have := hr.1; rw [ts_length] at this; omega
  have HE : Hid (l.length = n) := Lib.hid e1
  have HG := Lib.hid hg
  clear e1 hg
  go_enter Tryd.func11, Tryd.ntmps11
  go_wp2_with fail
  go_loop [7] (fun i => ∃ k : Nat, k ≤ n ∧ k ≤ m ∧ i = .int .i64 (k : Int) ∧ Hid (∀ s ∈ l.take k, s.length ≤ q)) (fun i => n - (intOf i).toNat)
  case atStart => exact ⟨0, Nat.zero_le _, Nat.zero_le _, rfl, Lib.hid (by simp)⟩
  case round =>
    obtain ⟨k, hk, hkm, rfl, HA⟩ := hrel
    have hend : ¬ (k < n ∧ k < m) → Hid (g = decide (m < n)) := fun h => Lib.hid (by
      rw [HG.out]
      unfold grB
      rw [HE.out]
      by_cases h1 : m < n
      · simp [h1]
      · have h2 : ((l.take m).any fun s => decide (q < s.length)) = false := by
          rw [List.any_eq_false]
          intro s hs
          have hkn : n ≤ k := by omega
          have := HA.out s (by
            rw [List.take_of_length_le (by rw [HE.out]; exact hkn)]
            exact List.mem_of_mem_take hs)
          simpa using this
        rw [h2]; simp)
    by_cases hlt : k < n
    · by_cases hltm : k < m
      · obtain ⟨ad, u, rfl, _, hu, hc⟩ := hr.at_ hlt
        obtain ⟨z, hz, rfl⟩ := ts_at hu
        have hzs := size_enc z
        by_cases hzl : q < z.length
        · have HR : Hid (g = true) := Lib.hid (by
            rw [HG.out]
            unfold grB
            rw [Bool.or_eq_true]
            refine .inr (List.any_eq_true.2 ⟨z, ?_, by simp [hzl]⟩)
            rw [List.mem_take_iff_getElem]
            obtain ⟨h1, h2⟩ := List.getElem?_eq_some_iff.1 hz
            exact ⟨k, by omega, h2⟩)
          clear hu hz hend
          go_wp2_with fail
          go_ret
          exact ⟨by rw [HR.out]; rfl, rfl⟩
        · have HA2 : Hid (∀ s ∈ l.take (k + 1), s.length ≤ q) := Lib.hid (by
            rw [take_snoc hz]
            intro s hs
            rcases List.mem_append.1 hs with hs | hs
            · exact HA.out s hs
            · rw [List.mem_singleton] at hs; subst hs; omega)
          clear hu hz hend
          go_wp2_with fail
          go_round
          case rel => exact ⟨k + 1, by omega, by omega, by go_num, HA2⟩
          case measure => simp [intOf]; omega
      · have HR := hend (fun h => hltm h.2)
        clear hend
        by_cases hmn : m < n
        · have d1 : decide (m < n) = true := by simp [hmn]
          go_wp2_with fail
          go_ret
          exact ⟨by rw [HR.out, d1]; rfl, rfl⟩
        · omega
    · have HR := hend (fun h => hlt h.1)
      clear hend
      by_cases hmn : m < n
      · omega
      · have d1 : decide (m < n) = false := by simp; omega
        go_wp2_with fail
        go_ret
        exact ⟨by rw [HR.out, d1]; rfl, rfl⟩
end Go.Proofs.YtppeagjklndidaaDoor
