/- Texts joined: Look BlobS LookBack LookCanon LookCut. -/
import Derived.Deep.RegionWith
import Derived.StillTailTactics
import Derived.Test.YtieknhhhcjdbnaaDoorRdE
/- A short number, byte by byte: its value, how many bytes it has, or the error's number. Plain facts; and package num's readVar. -/
namespace Go.Proofs.YtieknhhhcjdbnaaDoor
open Go.RowKit
set_option linter.unusedVariables false
set_option linter.unusedSimpArgs false
set_option maxRecDepth 100000

def lookF : Nat → Nat → List Nat → Nat × Nat × Nat
  | _, _, [] => (0, 0, 2)
  | i, acc, b :: r => if (0 < i ∧ b = 0) ∨ (i = 9 ∧ 1 < b % 128) ∨ 9 < i then (0, 0, 4) else if b < 128 then (acc + b % 128 * 128 ^ i, i + 1, 0) else lookF (i + 1) (acc + b % 128 * 128 ^ i) r
theorem look_step {l : List Nat} {k acc b : Nat} (hb : l[k]? = some b) : lookF k acc (l.drop k) = if (0 < k ∧ b = 0) ∨ (k = 9 ∧ 1 < b % 128) ∨ 9 < k then (0, 0, 4) else if b < 128 then (acc + b % 128 * 128 ^ k, k + 1, 0) else lookF (k + 1) (acc + b % 128 * 128 ^ k) (l.drop (k + 1)) := by
  have hk : k < l.length := by
    rcases Nat.lt_or_ge k l.length with h | h
    · exact h
    · rw [List.getElem?_eq_none h] at hb; cases hb
  rw [List.getElem?_eq_getElem hk] at hb
  injection hb with hb
  rw [List.drop_eq_getElem_cons hk, hb]
  rfl

def look3 (e : Nat) : Value := if e = 0 then .nilIface else .iface 44 (.int .i64 (e : Int))
def lookV (r : Nat × Nat × Nat) : Value := .tuple #[.int .u64 (r.1 : Int), .int .i64 (r.2.1 : Int), look3 r.2.2]
theorem and127' : ∀ b : Fin 256, b.val &&& 127 = b.val % 128 := by decide +kernel
theorem and127 (b : Nat) (h : b < 256) : bits .and .u8 (b : Int) 127 = (b : Int) % 128 := by
  rw [show (127 : Int) = ((127 : Nat) : Int) from rfl, u8_and_nat _ _ h (by omega), and127' ⟨b, h⟩]; rfl

theorem pow7 (k : Nat) : 2 ^ (7 * k) = 128 ^ k := by rw [Nat.pow_mul]
theorem shl_bound (b k : Nat) (hk : k ≤ 9) (h9 : k = 9 → b % 128 ≤ 1) : b % 128 * 128 ^ k + 128 ^ k ≤ 18446744073709551616 := by
  have hb : b % 128 < 128 := Nat.mod_lt _ (by omega)
  have hk' : k = 0 ∨ k = 1 ∨ k = 2 ∨ k = 3 ∨ k = 4 ∨ k = 5 ∨ k = 6 ∨ k = 7 ∨ k = 8 ∨ k = 9 := by omega
  rcases hk' with rfl | rfl | rfl | rfl | rfl | rfl | rfl | rfl | rfl | rfl <;> simp only [Nat.reducePow] <;> first | omega | (have := h9 rfl; omega)
theorem or_shl (acc b k : Nat) (hk : k ≤ 9) (h9 : k = 9 → b % 128 ≤ 1) (hacc : acc < 128 ^ k) :
    bits .or .u64 (acc : Int) (IntKind.u64.wrap ((b : Int) % 128 * 2 ^ (7 * k))) = ((acc + b % 128 * 128 ^ k : Nat) : Int) := by
  have hb := shl_bound b k hk h9
  have e : ((b : Int) % 128 * 2 ^ (7 * k)) = ((b % 128 * 128 ^ k : Nat) : Int) := by
    rw [← pow7]; push_cast; rfl
  rw [e, IntKind.wrap_u64, show (((b % 128 * 128 ^ k : Nat) : Int) % 18446744073709551616) = ((b % 128 * 128 ^ k : Nat) : Int) by
    have := Int.emod_eq_of_lt (a := ((b % 128 * 128 ^ k : Nat) : Int)) (b := 18446744073709551616) (by omega) (by omega); exact this]
  rw [u64_or_nat _ _ (by omega) (by omega), Nat.or_comm, nat_join (7 * k) _ _ (by rw [pow7]; exact Nat.mul_mod_left _ _) (by rw [pow7]; exact hacc)]
  refine congrArg Nat.cast ?_
  omega
theorem acc_next (acc b k : Nat) (hacc : acc < 128 ^ k) : acc + b % 128 * 128 ^ k < 128 ^ (k + 1) := by
  have hb : b % 128 ≤ 127 := by have := Nat.mod_lt b (show 0 < 128 by omega); omega
  have : b % 128 * 128 ^ k ≤ 127 * 128 ^ k := Nat.mul_le_mul_right _ hb
  rw [Nat.pow_succ]; omega

set_option maxHeartbeats 4000000 in
theorem readVar_any {w : World} {B : Nat} {A : Option Addr} {n : Nat} {l : List Nat} (c : Nat) (hr : Reads w B 1 A n (bs l)) (hby : ∀ b ∈ l, b < 256) (hn : n ≤ 140737488355328) :
    Calls Tryd.prog 55 #[.slice A n c] w fun e w' => e = .returned (lookV (lookF 0 0 l)) ∧ w = w' := by
  have hl : l.length = n := by have := hr.1; rw [bs_length] at this; omega
  have Hl := Lib.hid hl
  clear hl
  go_enter Tryd.func55, Tryd.ntmps55
  go_wp2_with fail
  go_loop [2, 10] (fun v i => ∃ k acc : Nat, k ≤ n ∧ k ≤ 10 ∧ i = .int .i64 (k : Int) ∧ v = .int .u64 (acc : Int) ∧ Hid (acc < 128 ^ k) ∧ acc < 18446744073709551616 ∧ Hid (lookF 0 0 l = lookF k acc (l.drop k))) (fun _ i => n - (intOf i).toNat)
  case atStart => exact ⟨0, 0, by omega, by omega, rfl, rfl, Lib.hid (by omega), by omega, Lib.hid (by simp)⟩
  case round =>
    obtain ⟨k, acc, hk, hk10, rfl, rfl, hacc, hacc64, hpre⟩ := hrel
    by_cases hlt : k < n
    · obtain ⟨ad, u, rfl, _, hu, hc⟩ := hr.at_ hlt
      obtain ⟨b, hb, rfl⟩ := bs_at hu
      have hb256 := hby b (List.mem_of_getElem? hb)
      have hand := and127 b hb256
      have hstep := look_step (acc := acc) hb
      rw [← hpre.out] at hstep
      have HS := Lib.hid hstep
      have HBY := Lib.hid hby
      clear hb hu hby hstep
      by_cases hF : (0 < k ∧ b = 0) ∨ (k = 9 ∧ 1 < b % 128) ∨ 9 < k
      · have hv := HS.out
        rw [if_pos hF] at hv
        have HV := Lib.hid hv
        clear hv HS
        by_cases p1 : 0 < k ∧ b = 0
        · obtain ⟨q1, q2⟩ := p1
          have f1 : 0 < k := by omega
          have f2 : ((b : Int) == 0) = true := by simp; omega
          clear hF q2
          go_wp2_with fail
          go_ret3
          exact ⟨by rw [HV.out]; rfl, rfl⟩
        · by_cases p2 : k = 9 ∧ 1 < b % 128
          · obtain ⟨q1, q2⟩ := p2
            have f1 : 0 < k := by omega
            have f2 : ((b : Int) == 0) = false := by simp; omega
            have f3 : ((k : Int) == 9) = true := by simp; omega
            have f4 : decide ((1 : Int) < (b : Int) % 128) = true := by simp; omega
            clear hF p1 q1 q2
            go_wp2_with fail
            go_ret3
            exact ⟨by rw [HV.out]; rfl, rfl⟩
          · have f1 : 0 < k := by omega
            have f2 : ((b : Int) == 0) = false := by simp; omega
            have f3 : ((k : Int) == 9) = false := by simp; omega
            have f5 : ((k : Int) == 10) = true := by simp; omega
            clear hF p1 p2
            go_wp2_with fail
            go_ret3
            exact ⟨by rw [HV.out]; rfl, rfl⟩
      · have hk9 : k ≤ 9 := by omega
        have h91 : k = 9 → b % 128 ≤ 1 := fun h => by
          rcases Nat.lt_or_ge 1 (b % 128) with h1 | h1
          · exact absurd (.inr (.inl ⟨h, h1⟩)) hF
          · exact h1
        have hor := or_shl acc b k hk9 h91 hacc.out
        have hbd := shl_bound b k hk9 h91
        have hnx := acc_next acc b k hacc.out
        have hnew : acc + b % 128 * 128 ^ k < 18446744073709551616 := by have := hacc.out; omega
        have HN := Lib.hid hnx
        have HO := Lib.hid hor
        have HNW := Lib.hid hnew
        have hv := HS.out
        rw [if_neg hF] at hv
        have HV := Lib.hid hv
        clear hv HS hnx hor hnew hbd
        have fT : ((k : Int) == 10) = false := by simp; omega
        have f12 : (0 < k ∧ ((b : Int) == 0) = false) ∨ ¬ 0 < k := by
          rcases Nat.eq_zero_or_pos k with h0 | h0
          · exact .inr (by omega)
          · exact .inl ⟨h0, by simp; omega⟩
        have f34 : (((k : Int) == 9) = true ∧ decide ((1 : Int) < (b : Int) % 128) = false) ∨ ((k : Int) == 9) = false := by
          rcases Nat.lt_or_ge k 9 with h0 | h0
          · exact .inr (by simp; omega)
          · exact .inl ⟨by simp; omega, by have := h91 (by omega); simp; omega⟩
        have H91 := Lib.hid h91
        clear hF h91
        by_cases hlast : b < 128
        · have hv := HV.out
          rw [if_pos hlast] at hv
          have HV2 := Lib.hid hv
          clear HV hv
          rcases f12 with ⟨f1, f2⟩ | f1 <;> rcases f34 with ⟨f3, f4⟩ | f3
          all_goals
            go_wp2_with fail
            go_ret3
            refine ⟨?_, rfl⟩
            rw [HV2.out]
            exact ret_of (by
              show Value.tuple #[.int .u64 (bits .or .u64 (acc : Int) (IntKind.u64.wrap ((b : Int) % 128 * 2 ^ (7 * k)))), .int .i64 ((k : Int) + 1), .nilIface] = _
              rw [HO.out]; rfl)
        · have hv := HV.out
          rw [if_neg hlast] at hv
          have HV2 := Lib.hid hv
          clear HV hv
          rcases f12 with ⟨f1, f2⟩ | f1 <;> rcases f34 with ⟨f3, f4⟩ | f3
          all_goals
            go_wp2_with fail
            refine ⟨⟨k + 1, acc + b % 128 * 128 ^ k, by omega, by omega, by go_num, ?_, HN, HNW.out, HV2⟩, by simp [intOf]; omega⟩
            rw [HO.out]
    · go_wp2_with fail
      go_ret3
      refine ⟨?_, rfl⟩
      have hl := Hl.out
      rw [hpre.out, List.drop_eq_nil_of_le (by omega)]
      rfl
end Go.Proofs.YtieknhhhcjdbnaaDoor

/- What a blob is that is read: plain functions on bytes. -/
namespace Go.Proofs.YtieknhhhcjdbnaaDoor
open Go.RowKit
set_option linter.unusedVariables false
set_option linter.unusedSimpArgs false

/-- A blob at the front of bytes: where its own bytes begin, where they end, or the error's number. -/
def lookB (l : List Nat) (most : Int) : Nat × Nat × Nat :=
  if (lookF 0 0 l).2.2 = 0 then
    if most < 0 ∨ most < ((lookF 0 0 l).1 : Int) then (0, 0, 12)
    else if l.length - (lookF 0 0 l).2.1 < (lookF 0 0 l).1 then (0, 0, 2)
    else ((lookF 0 0 l).2.1, (lookF 0 0 l).2.1 + (lookF 0 0 l).1, 0)
  else (0, 0, (lookF 0 0 l).2.2)
/-- What Blob takes, and the reader's place and error behind it. -/
def blobS (l : List Nat) (at_ : Nat) (x : Option (Int × Nat)) (most : Int) : List Nat × Nat × Option (Int × Nat) :=
  match x with
  | some x => ([], at_, some x)
  | none => if (lookB (l.drop at_) most).2.2 = 0 then (((l.drop at_).take (lookB (l.drop at_) most).2.1).drop (lookB (l.drop at_) most).1, at_ + (lookB (l.drop at_) most).2.1, none) else ([], at_, some (((lookB (l.drop at_) most).2.2 : Int), at_))
end Go.Proofs.YtieknhhhcjdbnaaDoor

/- A short number that was put is taken as it was. Plain. -/
namespace Go.Proofs.YtieknhhhcjdbnaaDoor
open Go.RowKit
set_option linter.unusedVariables false
set_option linter.unusedSimpArgs false
set_option maxRecDepth 100000

theorem look_vbF (f : Nat) : ∀ v i acc (r : List Nat), i + f = 9 → v * 128 ^ i < 18446744073709551616 → (i = 0 ∨ v ≠ 0) → lookF i acc (vbF f v ++ r) = (acc + v * 128 ^ i, i + (vbF f v).length, 0) := by
  induction f with
  | zero =>
    intro v i acc r hi hv h0
    obtain rfl : i = 9 := by omega
    have hv1 : v = 1 := by
      have : (128 : Nat) ^ 9 = 9223372036854775808 := by decide
      rw [this] at hv; omega
    subst hv1
    show lookF 9 acc (1 :: r) = _
    unfold lookF
    simp [vbF]
  | succ f ih =>
    intro v i acc r hi hv h0
    rw [vbF_step]
    by_cases h : v < 128
    · rw [if_pos h]
      show lookF i acc (v :: r) = _
      unfold lookF
      rw [if_neg (by omega), if_pos h, Nat.mod_eq_of_lt h]
      rfl
    · rw [if_neg h]
      show lookF i acc ((128 + v % 128) :: (vbF f (v / 128) ++ r)) = _
      unfold lookF
      have e : (128 + v % 128) % 128 = v % 128 := by omega
      have hp : v * 128 ^ i = v % 128 * 128 ^ i + v / 128 * 128 ^ (i + 1) := by
        rw [Nat.pow_succ, Nat.mul_comm (128 ^ i) 128, ← Nat.mul_assoc, ← Nat.add_mul]
        congr 1; omega
      rw [if_neg (by omega), if_neg (by omega), e, ih (v / 128) (i + 1) _ r (by omega) (by omega) (by omega)]
      simp only [List.length_cons, Prod.mk.injEq, and_true]
      omega
theorem look_vb (v : Nat) (hv : v < 18446744073709551616) (r : List Nat) : lookF 0 0 (vb v ++ r) = (v, (vb v).length, 0) := by
  have := look_vbF 9 v 0 0 r (by omega) (by omega) (.inl rfl)
  simpa [vb] using this
end Go.Proofs.YtieknhhhcjdbnaaDoor

/- A short number that is taken has just the bytes that it has when it is put. Plain. -/
namespace Go.Proofs.YtieknhhhcjdbnaaDoor
open Go.RowKit
set_option linter.unusedVariables false
set_option linter.unusedSimpArgs false
set_option maxRecDepth 100000

theorem look_canon (l : List Nat) : ∀ i acc v m, (∀ b ∈ l, b < 256) → lookF i acc l = (v, m, 0) → ∃ u, v = acc + u * 128 ^ i ∧ i ≤ 9 ∧ (0 < i → u ≠ 0) ∧ l.take (m - i) = vbF (9 - i) u ∧ i < m ∧ u * 128 ^ i + 128 ^ i ≤ 18446744073709551616 := by
  induction l with
  | nil => intro i acc v m _ h; simp [lookF] at h
  | cons b r ih =>
    intro i acc v m hb h
    have hb0 := hb b (by simp)
    unfold lookF at h
    by_cases hF : (0 < i ∧ b = 0) ∨ (i = 9 ∧ 1 < b % 128) ∨ 9 < i
    · rw [if_pos hF] at h; simp at h
    · rw [if_neg hF] at h
      have h9 : i ≤ 9 := by omega
      have h91 : i = 9 → b % 128 ≤ 1 := fun e => by omega
      by_cases h1 : b < 128
      · rw [if_pos h1] at h
        simp only [Prod.mk.injEq, and_true] at h
        obtain ⟨rfl, rfl⟩ := h
        have hm := Nat.mod_eq_of_lt h1
        have hs := shl_bound b i h9 h91
        rw [hm] at hs ⊢
        refine ⟨b, rfl, h9, fun h0 e => hF (.inl ⟨h0, e⟩), ?_, by omega, hs⟩
        rw [show i + 1 - i = 1 by omega]
        rcases Nat.lt_or_ge i 9 with h8 | h8
        · rw [show 9 - i = (8 - i) + 1 by omega, vbF_step, if_pos h1]; rfl
        · rw [show 9 - i = 0 by omega]; rfl
      · rw [if_neg h1] at h
        obtain ⟨u, e1, e2, e3, e4, e5, e6⟩ := ih (i + 1) _ v m (fun x hx => hb x (by simp [hx])) h
        have hu := e3 (by omega)
        rw [Nat.pow_succ] at e1 e6
        generalize 128 ^ i = P at e1 e6 ⊢
        have e7 : (b % 128 + 128 * u) * P = b % 128 * P + u * (P * 128) := by
          rw [Nat.add_mul, Nat.mul_comm 128 u, Nat.mul_assoc, Nat.mul_comm 128 P]
        have e8 : b % 128 * P + P ≤ P * 128 := by
          have : (b % 128 + 1) * P ≤ 128 * P := Nat.mul_le_mul_right _ (by omega)
          rw [Nat.add_mul, Nat.one_mul] at this; omega
        refine ⟨b % 128 + 128 * u, by rw [e7]; omega, h9, fun _ => by omega, ?_, by omega, by rw [e7]; omega⟩
        rw [show m - i = (m - (i + 1)) + 1 by omega, List.take_succ_cons, e4, show 9 - i = (9 - (i + 1)) + 1 by omega, vbF_step, if_neg (by omega)]
        congr 1
        · omega
        · congr 1; omega
theorem look_is {l : List Nat} {v m : Nat} (hb : ∀ b ∈ l, b < 256) (h : lookF 0 0 l = (v, m, 0)) : l.take m = vb v ∧ v < 18446744073709551616 := by
  obtain ⟨u, e1, _, _, e4, _, e6⟩ := look_canon l 0 0 v m hb h
  simp only [Nat.pow_zero, Nat.mul_one, Nat.zero_add] at e1 e6
  subst e1
  exact ⟨e4, by omega⟩
end Go.Proofs.YtieknhhhcjdbnaaDoor

/- A short number that is cut off is short; a new reader as a reader with its error. -/
namespace Go.Proofs.YtieknhhhcjdbnaaDoor
open Go.RowKit
set_option linter.unusedVariables false
set_option linter.unusedSimpArgs false
set_option maxRecDepth 100000

theorem short_pre (f : Nat) : ∀ v i acc j, i + f ≤ 9 → j < (vbF f v).length → lookF i acc ((vbF f v).take j) = (0, 0, 2) := by
  induction f with
  | zero => intro v i acc j hi hj; simp [vbF] at hj; subst hj; simp [lookF]
  | succ f ih =>
    intro v i acc j hi hj
    rw [vbF_step] at hj ⊢
    by_cases h : v < 128
    · rw [if_pos h] at hj; simp at hj; subst hj; simp [lookF]
    · rw [if_neg h] at hj ⊢
      cases j with
      | zero => simp [lookF]
      | succ j =>
        simp only [List.length_cons] at hj
        rw [List.take_succ_cons]
        unfold lookF
        rw [if_neg (by omega), if_neg (by omega)]
        exact ih _ _ _ _ (by omega) (by omega)
theorem short_vb (v j : Nat) (hj : j < (vb v).length) : lookF 0 0 ((vb v).take j) = (0, 0, 2) := short_pre 9 v 0 0 j (by omega) hj
theorem rd_new {w : World} {g : Nat} {A : Option Addr} {n c : Nat} {l : List Nat} (h : Rd w g A n c 0 .nilIface l) : RdS w g l 0 none := ⟨A, n, c, _, h, rfl⟩

end Go.Proofs.YtieknhhhcjdbnaaDoor
