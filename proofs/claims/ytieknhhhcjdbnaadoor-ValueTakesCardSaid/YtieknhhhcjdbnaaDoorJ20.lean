/- Texts joined: Reader NFix ZagF TxVal TxBack RdBytes RdFar. -/
import Derived.WalkSpells
import Derived.Test.YtieknhhhcjdbnaaDoorFixed
import Derived.Test.YtieknhhhcjdbnaaDoorJ2
import Derived.Test.YtieknhhhcjdbnaaDoorRdE
import Derived.Test.YtieknhhhcjdbnaaDoorJ7
import Derived.Sort.EncStr
import Derived.Laws.IdiomStrings
import Derived.Laws.BytesArg
import Derived.Test.YtieknhhhcjdbnaaDoorTxPlain
/- Contract of package num's Reader's Fix, where it goes well. -/
namespace Go.Proofs.YtieknhhhcjdbnaaDoor
open Go.RowKit
set_option linter.unusedVariables false
set_option linter.unusedSimpArgs false
set_option maxRecDepth 100000

theorem fix_ok {w : World} {g : Nat} {A : Option Addr} {n c at_ : Nat} {l : List Nat} (size : Nat) (hR : Rd w g A n c at_ .nilIface l) (hs : size ≤ 8) (hroom : at_ + size ≤ n) :
    Calls Tryd.prog 24 #[.pointer (some ⟨g, 0, none⟩), .int .i64 (size : Int)] w
      fun e w' => e = .returned (.int .u64 ((unfx ((l.drop at_).take size) : Nat) : Int)) ∧ Rd w' g A n c (at_ + size) .nilIface l ∧ w.grownBy w' (some g) := by
  have hc0 := hR.blk.cell 0
  have hc := hR.blk.cell 1
  simp only [List.getElem?_toArray, List.getElem?_cons_succ, List.getElem?_cons_zero] at hc hc0
  have hz := hR.size
  have hp := hR.place
  have hcap := hR.cap
  have hf := hR.blk.frozen 1
  have hcut : Reads w g 1 (if c = at_ then A else Option.map (fun x => x.add at_) A) size (bs ((l.drop at_).take size)) := by
    have := (hR.reads.cut hp hcap).fore (k := size) (by omega)
    simpa [bs_drop, bs_take] using this
  have hby : ∀ b ∈ (l.drop at_).take size, b < 256 := fun b hb => hR.byte b (List.mem_of_mem_drop (List.mem_of_mem_take hb))
  go_enter Tryd.func24, Tryd.ntmps24
  go_wp2_with (first
    | (go_at_call 52; refine (stopped_ok hR).mono ?_; rintro e w1 ⟨rfl, rfl⟩)
    | (go_at_call 48; refine (left_any hR).mono ?_; rintro e w1 ⟨rfl, q, rfl⟩))
  go_quiet ((go_at_call 54; exact quiet_same (fixed_any _ (hcut.drewN _) hs hby)))
  go_wp2_with fail
  all_goals
    go_ret
    first
      | exact ⟨rfl, hR.goes _ _ hroom⟩
      | (have hca : c = at_ := by assumption
         subst hca
         exact ⟨rfl, hR.goes _ _ hroom⟩)
end Go.Proofs.YtieknhhhcjdbnaaDoor

/- Contract of the Reader's Fix, with every error. -/
namespace Go.Proofs.YtieknhhhcjdbnaaDoor
open Go.RowKit
set_option linter.unusedVariables false
set_option linter.unusedSimpArgs false
set_option maxRecDepth 100000

theorem nfix_is {w : World} {g : Nat} {l : List Nat} {at_ : Nat} {x : Option (Int × Nat)} (n : Int) (h : RdS w g l at_ x) :
    Calls Tryd.prog 24 #[.pointer (some ⟨g, 0, none⟩), .int .i64 n] w
      fun e w' => e = .returned (.int .u64 ((fixS l at_ x n).1 : Int)) ∧ RdTo w g l (fixS l at_ x n).2.1 (fixS l at_ x n).2.2 w' := by
  cases x with
  | some x =>
    go_enter Tryd.func24, Tryd.ntmps24
    go_wp2_with (go_at_call 52; refine (stopped_err h).mono ?_; rintro e w1 ⟨rfl, rfl⟩)
    go_ret
    exact ⟨rfl, RdTo.same h (Drawn.refl w)⟩
  | none =>
    have hp := h.place
    by_cases h0 : n < 0 ∨ 8 < n
    · have hS : fixS l at_ none n = (0, at_, some (1, at_)) := by unfold fixS; simp only; rw [if_pos h0]
      rw [hS]
      clear hS
      rcases h0 with h0 | h0
      · go_enter Tryd.func24, Tryd.ntmps24
        go_wp2_with (first
          | (go_at_call 52; refine (stopped_is h).mono ?_; rintro e w1 ⟨rfl, rfl⟩)
          | (go_at_call 53; refine (stop_is 1 h).mono ?_; rintro e w2 ⟨rfl, hto⟩))
        go_ret
        exact ⟨rfl, hto⟩
      · have h0' : ¬ n < 0 := by omega
        go_enter Tryd.func24, Tryd.ntmps24
        go_wp2_with (first
          | (go_at_call 52; refine (stopped_is h).mono ?_; rintro e w1 ⟨rfl, rfl⟩)
          | (go_at_call 53; refine (stop_is 1 h).mono ?_; rintro e w2 ⟨rfl, hto⟩))
        go_ret
        exact ⟨rfl, hto⟩
    · by_cases h1 : (l.length : Int) - at_ < n
      · have hS : fixS l at_ none n = (0, at_, some (2, at_)) := by unfold fixS; simp only; rw [if_neg h0, if_pos h1]
        rw [hS]
        clear hS
        have h2 : ¬ n < 0 := fun h' => h0 (.inl h')
        have h3 : ¬ 8 < n := fun h' => h0 (.inr h')
        clear h0
        go_enter Tryd.func24, Tryd.ntmps24
        go_wp2_with (first
          | (go_at_call 52; refine (stopped_is h).mono ?_; rintro e w1 ⟨rfl, rfl⟩)
          | (go_at_call 48; refine (left_is h).mono ?_; rintro e w1 ⟨rfl, hd⟩; have h2' := h.next (hd.below (Below.refl _ _)))
          | (go_at_call 53; refine (stop_is 2 h2').mono ?_; rintro e w2 ⟨rfl, hto⟩))
        go_ret
        exact ⟨rfl, hto.1, only_trans (only_below (World.grownBy.refl w _) (hd.below (Below.refl _ _))) hto.2⟩
      · obtain ⟨k, rfl⟩ := Int.eq_ofNat_of_zero_le (show 0 ≤ n by omega)
        have hS : fixS l at_ none (k : Int) = (unfx ((l.drop at_).take k), at_ + k, none) := by unfold fixS; simp only; rw [if_neg h0, if_neg h1]; rfl
        rw [hS]
        obtain ⟨A, m, c, err, hR, rfl⟩ := h
        exact (fix_ok k hR (by omega) (by have := hR.length; omega)).mono fun e w' ⟨he, hr, hg⟩ => ⟨he, ⟨A, m, c, _, hr, rfl⟩, hg⟩
end Go.Proofs.YtieknhhhcjdbnaaDoor

/- Contract of package num's Zag. -/
namespace Go.Proofs.YtieknhhhcjdbnaaDoor
open Go.RowKit
set_option linter.unusedVariables false
set_option linter.unusedSimpArgs false
set_option maxRecDepth 100000

theorem zag_any (v : Nat) (w : World) (hv : v < 18446744073709551616) : Calls Tryd.prog 25 #[.int .u64 (v : Int)] w fun e w' => e = .returned (.int .i64 (zagI v)) ∧ w = w' := by
  have HZ := Lib.hid (zag_is v hv)
  go_enter Tryd.func25, Tryd.ntmps25
  go_wp2_with fail
  go_ret
  exact ⟨ret_of (congrArg (Value.int .i64) HZ.out), rfl⟩
end Go.Proofs.YtieknhhhcjdbnaaDoor

/- Texts as values, one behind the other. No program; no condition. -/
namespace Go.Proofs.YtieknhhhcjdbnaaDoor
open Go.RowKit
set_option linter.unusedVariables false
set_option linter.unusedSimpArgs false
set_option maxRecDepth 100000

/-- Texts as values. -/
def ts (l : List (List UInt8)) : List Value := l.map Go.Proofs.encStr
theorem ts_length (l : List (List UInt8)) : (ts l).length = l.length := by simp [ts]
theorem ts_nil : ts [] = [] := rfl
theorem ts_append (l m : List (List UInt8)) : ts (l ++ m) = ts l ++ ts m := by simp [ts]
theorem ts_take (l : List (List UInt8)) (k : Nat) : (ts l).take k = ts (l.take k) := by simp [ts]
theorem ts_drop (l : List (List UInt8)) (k : Nat) : (ts l).drop k = ts (l.drop k) := by simp [ts]
theorem ts_one (l : List (List UInt8)) : ∀ u ∈ ts l, u.oneCell' = true := by
  intro u hu
  obtain ⟨b, _, rfl⟩ := List.mem_map.1 hu
  rfl
theorem ts_at {l : List (List UInt8)} {k : Nat} {u : Value} (h : (ts l)[k]? = some u) : ∃ b, l[k]? = some b ∧ u = .string ⟨b.toArray⟩ := by
  unfold ts at h
  rw [List.getElem?_map] at h
  cases hb : l[k]? with
  | none => rw [hb] at h; cases h
  | some b => rw [hb] at h; injection h with h; exact ⟨b, rfl, h.symm⟩
theorem ts_get {l : List (List UInt8)} {k : Nat} {z : List UInt8} (h : l[k]? = some z) : (ts l)[k]? = some (.string ⟨z.toArray⟩) := by unfold ts; rw [List.getElem?_map, h]; rfl
theorem ts_snoc (xs : List Value) (l : List (List UInt8)) (b : List UInt8) : xs ++ ts l ++ [Value.string ⟨b.toArray⟩] = xs ++ ts (l ++ [b]) := by simp [ts]
theorem ts_same {x y : List UInt8} : ((⟨x.toArray⟩ : ByteArray) = ⟨y.toArray⟩) ↔ x = y := by
  constructor
  · intro h; have h2 := congrArg (fun b : ByteArray => b.data.toList) h; simpa using h2
  · intro h; rw [h]
theorem size_enc (x : List UInt8) : (⟨x.toArray⟩ : ByteArray).size = x.length := by simp [ByteArray.size]
end Go.Proofs.YtieknhhhcjdbnaaDoor

/- Bytes as a text, over this program. No condition. -/
namespace Go.Proofs.YtieknhhhcjdbnaaDoor
open Go.RowKit
set_option linter.unusedVariables false
set_option linter.unusedSimpArgs false
set_option maxRecDepth 100000

theorem tb_length (p : List Nat) : (tb p).length = p.length := by simp [tb]
theorem text_of {w : World} {B n : Nat} {A : Option Addr} {p : List Nat} (c : Nat) (hr : Reads w B 1 A n (bs p)) (hb : ∀ x ∈ p, x < 256) :
    (convert 22 9 (.slice A n c)).run Tryd.prog w = .ok (.string ⟨(tb p).toArray⟩) w := by
  have e1 : p.length = n := by have := hr.1; rw [bs_length] at this; omega
  cases A with
  | none =>
    have hn : n = 0 := by
      rcases Nat.eq_zero_or_pos n with h0 | h0
      · exact h0
      · obtain ⟨ad, h, _⟩ := hr.2 h0
        cases h
    subst hn
    obtain rfl : p = [] := List.eq_nil_of_length_eq_zero e1
    exact run_convert_bytes_nil w 22 5 Tryd.underlying22 Tryd.underlying5 0 c 9 Tryd.underlying9
  | some ad =>
    have h := run_convert_bytes_back (P := Tryd.prog) w 22 9 5 ad c (tb p) Tryd.underlying22 Tryd.underlying5 Tryd.underlying9 (fun j hj => by
      have hjp : j < p.length := by rw [tb_length] at hj; exact hj
      obtain ⟨ad', e, _, hc⟩ := hr.2 (by omega)
      injection e with e
      subst e
      refine hc j _ ?_
      have hx := hb p[j] (List.getElem_mem hjp)
      have e : (tb p)[j] = UInt8.ofNat p[j] := by simp [tb]
      rw [e, UInt8.toNat_ofNat_of_lt' hx]
      unfold bs
      rw [List.getElem?_map, List.getElem?_eq_getElem hjp]
      rfl)
    rw [tb_length, e1] at h
    exact h
end Go.Proofs.YtieknhhhcjdbnaaDoor

/- A num reader's bytes are bytes, and so are those that it takes. No condition. -/
namespace Go.Proofs.YtieknhhhcjdbnaaDoor
open Go.RowKit
set_option linter.unusedVariables false
set_option linter.unusedSimpArgs false
set_option maxRecDepth 100000

theorem RdS.byte {w : World} {g : Nat} {l : List Nat} {at_ : Nat} {x : Option (Int × Nat)} (h : RdS w g l at_ x) : ∀ b ∈ l, b < 256 := by
  obtain ⟨A, n, c, err, hR, _⟩ := h
  exact hR.byte
theorem takeS_byte (b : List Nat) (at_ : Nat) (x : Option (Int × Nat)) (n : Int) (hb : ∀ v ∈ b, v < 256) : (∀ v ∈ (takeS b at_ x n).1, v < 256) ∧ (takeS b at_ x n).1.length ≤ b.length := by
  unfold takeS
  cases x with
  | some y => simp
  | none =>
    simp only
    split
    · simp
    · split
      · simp
      · refine ⟨fun v hv => hb v (List.mem_of_mem_drop (List.mem_of_mem_take hv)), ?_⟩
        simp only [List.length_take, List.length_drop]; omega
end Go.Proofs.YtieknhhhcjdbnaaDoor

/- A reader stands while a row behind it is written. -/
namespace Go.Proofs.YtieknhhhcjdbnaaDoor
open Go.RowKit
set_option linter.unusedVariables false
set_option linter.unusedSimpArgs false
set_option maxRecDepth 100000

theorem RdS.store {w : World} {g h : Nat} {l : List Nat} {at_ : Nat} {x : Option (Int × Nat)} (hS : RdS w g l at_ x) {t : TypeId} {cs : Array Value} (hb : Blk w h t cs) (hg : g < h) (ht : t ≠ 98) (i : Nat) (u : Value) :
    RdS (w.setCell ⟨h, i, none⟩ u) g l at_ x := by
  obtain ⟨A, n, c, err, hR, hE⟩ := hS
  exact ⟨A, n, c, err, ⟨hR.blk.far (p := ⟨h, i, none⟩) (by show g ≠ h; omega) u, hR.reads.setCell (p := ⟨h, i, none⟩) (by show g ≤ h; omega) u, hR.cap, hR.place, hR.size, hR.byte⟩,
    hE.next fun f t' cs' hf ht' => hf.far (p := ⟨h, i, none⟩) (hf.type_ne hb (by rw [ht']; exact fun e => ht e.symm)) u⟩
theorem RdS.alloc {w : World} {g : Nat} {l : List Nat} {at_ : Nat} {x : Option (Int × Nat)} (hS : RdS w g l at_ x) (o : Obj) : RdS (w.alloc o) g l at_ x :=
  hS.next ((Below.refl _ _).alloc (Nat.le_refl _) _)
end Go.Proofs.YtieknhhhcjdbnaaDoor
