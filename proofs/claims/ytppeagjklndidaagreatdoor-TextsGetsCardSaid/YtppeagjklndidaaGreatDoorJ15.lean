/- Texts joined: Lists Concat Len64 Mem64. -/
import Derived.Test.YtppeagjklndidaaGreatDoorJ2
import Derived.Test.YtppeagjklndidaaGreatDoorJ14
import Derived.Lib.Strings
import Derived.Lib.Slices
import Derived.Lib.Small
import Derived.Lib.Walk
import Derived.Lib.BitFns
import Derived.Test.YtppeagjklndidaaGreatDoorJ9
/- Lists of byte texts in memory: a slice of slices; append of one onto a row of the call's own. -/
namespace Go.Proofs.YtppeagjklndidaaGreatDoor
open Go.RowKit
set_option linter.unusedVariables false
set_option linter.unusedSimpArgs false
set_option maxRecDepth 100000

/-- A slice that reads as bytes, off the block 'own'. -/
def Off (w : World) (own : Option Nat) (v : Value) (l : List Nat) : Prop :=
  ∃ A c, v = .slice A l.length c ∧ Reads w w.heap.size 1 A l.length (bs l) ∧ (0 < l.length → ∀ ad, A = some ad → some ad.block ≠ own)
/-- A slice that reads as bytes. -/
def IsB (w : World) (v : Value) (l : List Nat) : Prop := ∃ A c, v = .slice A l.length c ∧ Reads w w.heap.size 1 A l.length (bs l)
theorem Off.isB {w : World} {own : Option Nat} {v : Value} {l : List Nat} (h : Off w own v l) : IsB w v l := by
  obtain ⟨A, c, e, hr, _⟩ := h
  exact ⟨A, c, e, hr⟩
theorem IsB.off {w : World} {v : Value} {l : List Nat} (h : IsB w v l) (own : Option Nat) (ho : ∀ g, own = some g → w.heap.size ≤ g) : Off w own v l := by
  obtain ⟨A, c, e, hr⟩ := h
  refine ⟨A, c, e, hr, fun hn ad had heq => ?_⟩
  obtain ⟨ad', h1, h2, _⟩ := hr.2 hn
  rw [had] at h1
  injection h1 with h1
  subst h1
  have := ho _ heq.symm
  omega
theorem IsB.one {w : World} {v : Value} {l : List Nat} (h : IsB w v l) : v.oneCell' = true := by
  obtain ⟨A, c, rfl, _⟩ := h; rfl
theorem Off.one {w : World} {own : Option Nat} {v : Value} {l : List Nat} (h : Off w own v l) : v.oneCell' = true := h.isB.one
theorem IsB.next {w w' : World} {v : Value} {l : List Nat} (h : IsB w v l) (hb : Below w.heap.size w w') : IsB w' v l := by
  obtain ⟨A, c, e, hr⟩ := h
  exact ⟨A, c, e, (hr.below hb).more hb.size⟩
theorem Off.next {w w' : World} {own : Option Nat} {v : Value} {l : List Nat} (h : Off w own v l) (hb : Below w.heap.size w w') : Off w' own v l := by
  obtain ⟨A, c, e, hr, ho⟩ := h
  exact ⟨A, c, e, (hr.below hb).more hb.size, ho⟩
/-- A row of the call's own grows, in place or in a new block: what lies off it stands, and lies off it still. -/
theorem Off.grown {w w' : World} {own own' : Option Nat} {v : Value} {l : List Nat} (h : Off w own v l) (hg : w.grownBy w' own) (ho' : own' = own ∨ own' = some w.heap.size) : Off w' own' v l := by
  obtain ⟨A, c, e, hr, ho⟩ := h
  refine ⟨A, c, e, ⟨hr.1, fun hn => ?_⟩, fun hn ad had => ?_⟩
  · obtain ⟨ad, had, hlt, hc⟩ := hr.2 hn
    refine ⟨ad, had, Nat.lt_of_lt_of_le hlt hg.size, fun j u hu => hg.cell (hc j u hu) ?_⟩
    rw [block_of_add]
    exact ho hn ad had
  · rcases ho' with rfl | rfl
    · exact ho hn ad had
    · obtain ⟨ad', had', hlt, _⟩ := hr.2 hn
      rw [had] at had'
      injection had' with had'
      subst had'
      intro h
      injection h with h
      omega
/-- A list of byte texts: a slice of slices. -/
def LL (w : World) (A : Option Addr) (ls : List (List Nat)) : Prop := ∃ vs, Reads w w.heap.size 1 A ls.length vs ∧ Each (IsB w) vs ls
theorem LL.next {w w' : World} {A : Option Addr} {ls : List (List Nat)} (h : LL w A ls) (hb : Below w.heap.size w w') : LL w' A ls := by
  obtain ⟨vs, hr, he⟩ := h
  exact ⟨vs, (hr.below hb).more hb.size, he.imp fun v l hv => hv.next hb⟩
theorem LL.none_ {w : World} : LL w none [] := ⟨[], Reads.none_, trivial⟩

theorem info_bytes : (Tryz.prog.info? 22).map (fun i => (i.zero, i.size, i.bytes)) = some (some (.slice none 0 0), 1, 24) := by kernel_rfl
end Go.Proofs.YtppeagjklndidaaGreatDoor

/- Contract of the library's slices.Concat over bytes: all parts, one behind the other, in new memory. -/
namespace Go.Proofs.YtppeagjklndidaaGreatDoor
open Go.RowKit
set_option linter.unusedVariables false
set_option linter.unusedSimpArgs false
set_option maxRecDepth 100000

/-- The text at a place of a list of byte texts. -/
theorem LL.at_ {w : World} {A : Option Addr} {ls : List (List Nat)} (h : LL w A ls) {i : Nat} {l : List Nat} (hl : ls[i]? = some l) : ∃ ad u, A = some ad ∧ w.cell? (ad.add i) = some u ∧ IsB w u l := by
  obtain ⟨vs, hr, he⟩ := h
  obtain ⟨u, hu, hc⟩ := he.at_ hl
  obtain ⟨ad, u', e, _, h1, h2⟩ := hr.at_ (k := i) (List.getElem?_eq_some_iff.1 hl).1
  rw [hu] at h1
  injection h1 with h1
  subst h1
  exact ⟨ad, u, e, h2, hc⟩
theorem flat_step {ls : List (List Nat)} {k : Nat} {l : List Nat} (h : ls[k]? = some l) : (ls.take (k + 1)).flatten = (ls.take k).flatten ++ l := by
  rw [List.take_add_one, h]; simp
theorem flat_le (ls : List (List Nat)) (k : Nat) : (ls.take k).flatten.length ≤ ls.flatten.length := by
  have h : ls.flatten = (ls.take k).flatten ++ (ls.drop k).flatten := by rw [← List.flatten_append, List.take_append_drop]
  rw [h, List.length_append]; omega
set_option maxHeartbeats 1000000 in
theorem concat_any (A : Option Addr) (n c : Nat) (ls : List (List Nat)) (w : World) (hL : LL w A ls) (hl : ls.length = n) (hn : n ≤ 140737488355328) (ht : ls.flatten.length ≤ 70368744177664) :
    Calls Tryz.prog 56 #[.slice A n c] w (New w (bs ls.flatten) ls.flatten.length) := by
  obtain ⟨i0, hi0, hz0, hz1, hz2⟩ := info_parts info_u8
  obtain ⟨T, hT⟩ : ∃ T, T = ls.flatten.length := ⟨_, rfl⟩
  have hle := fun k => flat_le ls k
  rw [← hT] at ht hle ⊢
  have HL := Lib.hid hl; have HT := Lib.hid hT
  clear hl hT
  go_enter Tryz.func56, Tryz.ntmps56
  go_wp2_with fail
  go_loop [3, 11] (fun s3 s11 => ∃ k m : Nat, k ≤ n ∧ s11 = .int .i64 (k : Int) ∧ s3 = .int .i64 (m : Int) ∧ Hid (m = (ls.take k).flatten.length)) (fun _ i => n - (intOf i).toNat)
  case atStart => exact ⟨0, 0, Nat.zero_le _, rfl, rfl, Lib.hid rfl⟩
  case round =>
    obtain ⟨k, m, hk, rfl, rfl, hm⟩ := hrel
    have hmT : m ≤ T := by rw [hm.out]; exact hle k
    by_cases hlt : k < n
    · obtain ⟨t, hat⟩ : ∃ t, ls[k]? = some t := ⟨_, List.getElem?_eq_getElem (by rw [HL.out]; exact hlt)⟩
      obtain ⟨ad, u, rfl, hc, A2, c2, rfl, hr2⟩ := hL.at_ hat
      have hm2 := hle (k + 1)
      rw [flat_step hat, List.length_append, ← hm.out] at hm2
      obtain ⟨q, hq⟩ : ∃ q, q = t.length := ⟨_, rfl⟩
      rw [← hq] at hc hm2
      have HS : Hid ((ls.take (k + 1)).flatten.length = m + q) := Lib.hid (by rw [flat_step hat, List.length_append, ← hm.out, hq])
      clear hat hq hr2
      go_wp2_with fail
      go_round
      case rel => exact ⟨k + 1, m + q, by omega, by go_num, by go_num, Lib.hid HS.out.symm⟩
      case measure => simp [intOf]; omega
    · obtain rfl : k = n := by omega
      have hmk : Hid (m = T) := Lib.hid (by rw [hm.out, HT.out, List.take_of_length_le (by rw [HL.out]; omega)])
      clear hm
      have h1 := hmk.out
      subst h1
      go_wp2_with fail
      refine (grow_nil m w (by omega)).mono ?_
      rintro e w1 ⟨v1, rfl, hown1, hb1⟩
      go_wp2_with fail
      go_loopw [6, 27] (fun s6 s27 wr => ∃ j : Nat, j ≤ k ∧ s27 = .int .i64 (j : Int) ∧ wr.ownsRow w.heap.size 5 1 s6 (ls.take j).flatten.length (bs (ls.take j).flatten) ∧ Below w.heap.size w wr) (fun _ i _ => k - (intOf i).toNat)
      case atStart => exact ⟨0, by omega, rfl, hown1, hb1⟩
      case round =>
        clear hown1 hb1
        obtain ⟨j, hj, rfl, hown, hb⟩ := hrel
        have hmj := hle j
        by_cases hlt : j < k
        · obtain ⟨t, hat⟩ : ∃ t, ls[j]? = some t := ⟨_, List.getElem?_eq_getElem (by rw [HL.out]; exact hlt)⟩
          obtain ⟨ad, u, rfl, hc, A2, c2, rfl, hr2⟩ := (hL.next hb).at_ hat
          have hm2 := hle (j + 1)
          rw [flat_step hat, List.length_append] at hm2
          have HS := Lib.hid (flat_step hat)
          clear hat
          go_wp2_with (at_builtin
                       refine wpList_append_any _ rfl (.tmp 31) (.tmp 32) _ rfl w.heap.size 5 i0 _ 1 1 Tryz.underlying22 hi0 hz0 hz1 hz2 rfl (by omega) u6 (ls.take j).flatten.length (bs (ls.take j).flatten) rfl
                         hown wr.heap.size A2 t.length c2 (bs t) rfl hr2 (bs_one _) (by unfold maxLen; omega) (by omega) hb.size ?_
                       intro v3 w3 hown3 hg3 hat3)
          go_round
          case rel =>
            refine ⟨j + 1, by omega, by go_num, ?_, hb.grown hg3 hb.size (fun j hj => (hown.lt j hj).1)⟩
            rw [HS.out, List.length_append, bs_append]
            exact hown3
          case measure => simp [intOf]; omega
        · go_wp2_with fail
          go_ret
          obtain rfl : j = k := by omega
          rw [List.take_of_length_le (by rw [HL.out]; omega), ← HT.out] at hown
          exact ⟨_, rfl, hown, hb⟩
end Go.Proofs.YtppeagjklndidaaGreatDoor

/- Contract of math/bits.Len64: how many bits the number has. No condition. -/
namespace Go.Proofs.YtppeagjklndidaaGreatDoor
open Go.RowKit
set_option linter.unusedVariables false
set_option linter.unusedSimpArgs false
set_option maxRecDepth 100000

theorem blen_shift (k v : Nat) (h : 2 ^ k ≤ v) : blen v = blen (v / 2 ^ k) + k := by
  induction k generalizing v with
  | zero => simp
  | succ k ih =>
    have h2 : 2 ^ k ≤ v / 2 := by rw [Nat.pow_succ] at h; omega
    have := Nat.two_pow_pos k
    rw [blen_half v (by omega), ih _ h2, Nat.div_div_eq_div_mul, Nat.pow_succ, Nat.mul_comm 2]; omega
theorem blen8 : ∀ b : Fin 256, Lib.bitLen b.val = blen b.val := by decide +kernel
theorem size_len8tab : Lib.len8tab.size = 256 := by decide +kernel
theorem len8tab_fin : ∀ b : Fin 256, (Lib.len8tab[b.val]'(by rw [size_len8tab]; exact b.isLt)).toNat = blen b.val := by decide +kernel
theorem len8tab_at (x : Int) (n : Nat) (h0 : x.toNat = n) (h1 : n < 256) (hx : x.toNat < Lib.len8tab.size) (m : Nat) (hm : m ≤ 56) : wrap64 (wrap64 ((Lib.len8tab[x.toNat]'hx).toNat : Int)) = (blen n : Int) ∧ wrap64 ((m : Int) + wrap64 ((Lib.len8tab[x.toNat]'hx).toNat : Int)) = ((blen n + m : Nat) : Int) := by
  subst h0
  have h := len8tab_fin ⟨x.toNat, h1⟩
  simp only at h
  rw [h]
  have h8 : blen x.toNat ≤ 8 := (blen_le _ 8).2 (by omega)
  unfold wrap64
  omega
set_option maxHeartbeats 4000000 in
theorem len64_int (x : Int) (w : World) (h0 : 0 ≤ x) (h : x ≤ 18446744073709551615) :
    Calls Tryz.prog 79 #[.int .u64 x] w fun e w' => e = .returned (.int .i64 (blen x.toNat : Int)) ∧ w = w' := by
  have hs := size_len8tab
  go_enter Tryz.func79, Tryz.ntmps79
  go_wp2
  all_goals (go_ret; refine ⟨ret_of (congrArg (Value.int IntKind.i64) ?_), rfl⟩)
  all_goals first
    | (refine (len8tab_at _ (x.toNat / 2 ^ 56) (by omega) (by omega) _ 56 (by omega)).2.trans ?_; rw [← blen_shift 56 _ (by omega)])
    | (refine (len8tab_at _ (x.toNat / 2 ^ 48) (by omega) (by omega) _ 48 (by omega)).2.trans ?_; rw [← blen_shift 48 _ (by omega)])
    | (refine (len8tab_at _ (x.toNat / 2 ^ 40) (by omega) (by omega) _ 40 (by omega)).2.trans ?_; rw [← blen_shift 40 _ (by omega)])
    | (refine (len8tab_at _ (x.toNat / 2 ^ 32) (by omega) (by omega) _ 32 (by omega)).2.trans ?_; rw [← blen_shift 32 _ (by omega)])
    | (refine (len8tab_at _ (x.toNat / 2 ^ 24) (by omega) (by omega) _ 24 (by omega)).2.trans ?_; rw [← blen_shift 24 _ (by omega)])
    | (refine (len8tab_at _ (x.toNat / 2 ^ 16) (by omega) (by omega) _ 16 (by omega)).2.trans ?_; rw [← blen_shift 16 _ (by omega)])
    | (refine (len8tab_at _ (x.toNat / 2 ^ 8) (by omega) (by omega) _ 8 (by omega)).2.trans ?_; rw [← blen_shift 8 _ (by omega)])
    | exact (len8tab_at _ _ rfl (by omega) _ 0 (by omega)).1
theorem len64_any (x : Nat) (w : World) (h : x < 18446744073709551616) :
    Calls Tryz.prog 79 #[.int .u64 (x : Int)] w fun e w' => e = .returned (.int .i64 (blen x : Int)) ∧ w = w' :=
  len64_int x w (by omega) (by omega)
end Go.Proofs.YtppeagjklndidaaGreatDoor

/- Numbers of 64 bits in memory, over this program: lists of them as values; a slice of them that is made; what a function answers that hands out new ones. No condition. -/
namespace Go.Proofs.YtppeagjklndidaaGreatDoor
open Go.RowKit
set_option linter.unusedVariables false
set_option linter.unusedSimpArgs false
set_option maxRecDepth 100000

/-- Numbers of 64 bits as values. -/
def us (l : List Nat) : List Value := l.map fun b : Nat => Value.int .u64 (b : Int)
theorem us_one (l : List Nat) : ∀ u ∈ us l, u.oneCell' = true := by
  intro u hu
  obtain ⟨b, _, rfl⟩ := List.mem_map.1 hu
  rfl
theorem us_append (l m : List Nat) : us (l ++ m) = us l ++ us m := by simp [us]
theorem us_length (l : List Nat) : (us l).length = l.length := by simp [us]
theorem us_nil : us [] = [] := rfl
theorem us_at {l : List Nat} {k : Nat} {u : Value} (h : (us l)[k]? = some u) : ∃ b, l[k]? = some b ∧ u = .int .u64 (b : Int) := by
  unfold us at h
  rw [List.getElem?_map] at h
  cases hb : l[k]? with
  | none => rw [hb] at h; cases h
  | some b => rw [hb] at h; injection h with h; exact ⟨b, rfl, h.symm⟩
theorem us_get {l : List Nat} {k a : Nat} (h : l[k]? = some a) : (us l)[k]? = some (.int .u64 (a : Int)) := by unfold us; rw [List.getElem?_map, h]; rfl
theorem us_take (l : List Nat) (k : Nat) : (us l).take k = us (l.take k) := by simp [us]
theorem us_drop (l : List Nat) (k : Nat) : (us l).drop k = us (l.drop k) := by simp [us]
theorem us_snoc (xs : List Value) (l : List Nat) (b : Nat) (z : Int) (h : z = (b : Int)) : xs ++ us l ++ [Value.int .u64 z] = xs ++ us (l ++ [b]) := by
  subst h; simp [us]
theorem info_u64 : (Tryz.prog.info? 46).map (fun i => (i.zero, i.size, i.bytes)) = some (some (.int .u64 0), 1, 8) := by kernel_rfl
theorem run_make_u64 (n c : Nat) (hnc : n ≤ c) (hc : c ≤ 35184372088832) (w : World) :
    (Instr.makeSlice 51 (.int .i64 (n : Int)) (.int .i64 (c : Int))).run Tryz.prog w = .ok (.slice (some ⟨w.heap.size, 0, none⟩) n c) (w.alloc (.cells (madeCells #[.int .u64 0] c) 46)) := by
  obtain ⟨i, hi, hz0, hz1, hz2⟩ := info_parts info_u64
  have hr := run_make (P := Tryz.prog) w 51 46 i _ Tryz.underlying51 hi hz0 .i64 .i64 n c (by omega) (by omega) (by rw [hz2]; omega) (by omega)
  rw [hz1] at hr
  simpa [Value.cells] using hr
/-- What a function answers that hands out new numbers: new memory that holds 'xs'. -/
def New64 (w : World) (xs : List Value) (n : Nat) (e : Ending) (w' : World) : Prop := ∃ v, e = .returned v ∧ w'.ownsRow w.heap.size 46 1 v n xs ∧ Below w.heap.size w w'
theorem mem_of_take {l : List Nat} {k b : Nat} (h : l[k]? = some b) : b ∈ l := List.mem_of_getElem? h
end Go.Proofs.YtppeagjklndidaaGreatDoor
