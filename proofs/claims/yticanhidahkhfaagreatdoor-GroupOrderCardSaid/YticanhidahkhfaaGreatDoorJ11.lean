import Derived.Lib.Tables
import Derived.Test.YticanhidahkhfaaGreatDoorJ10
import Derived.Laws.CopyOwn
import Derived.Test.YticanhidahkhfaaGreatDoorJ1
import Derived.Test.YticanhidahkhfaaGreatDoorJ8
import Derived.Test.YticanhidahkhfaaGreatDoorJ6
namespace Go.Proofs.YticanhidahkhfaaGreatDoor
open Go.RowKit
set_option linter.unusedVariables false
set_option linter.unusedSimpArgs false
set_option maxRecDepth 100000
theorem size_pop8tab : Lib.pop8tab.size = 256 := by decide +kernel
theorem pop8tab_fin : ∀ x : Fin 256, (Lib.pop8tab[x.val]'(by rw [size_pop8tab]; exact x.isLt)).toNat = pc x.val := by decide +kernel
theorem pop8tab_at (x : Nat) (hx : x < Lib.pop8tab.size) : wrap64 ((Lib.pop8tab[x]'hx).toNat : Int) = (pc x : Int) := by
  have h := pop8tab_fin ⟨x, by rwa [size_pop8tab] at hx⟩
  simp only at h
  rw [h]
  have := pc_le x
  unfold wrap64
  omega
theorem ones_any (x : Nat) (w : World) (h : x < 256) : Calls Tryz.prog 178 #[.int .u8 (x : Int)] w fun e w' => e = .returned (.int .i64 (pc x : Int)) ∧ w = w' := by
  have hs := size_pop8tab
  go_enter Tryz.func178, Tryz.ntmps178
  go_wp2_with fail
  go_ret
  exact ⟨ret_of (congrArg (Value.int IntKind.i64) (pop8tab_at x _)), rfl⟩
theorem Rank_nil (i : Int) (w : World) : Calls Tryz.prog 106 #[.pointer none, .int .i64 i] w fun e w' => e = .returned (.int .i64 0) ∧ w = w' := by
  go_enter Tryz.func106, Tryz.ntmps106
  go_wp2_with fail
  go_ret
  exact ⟨rfl, rfl⟩
def rk (l : List Nat) (i : Int) : Nat := cnt (bit l) i.toNat
section
variable {w : World} {B g h n : Nat} {l : List Nat}
set_option maxHeartbeats 1000000 in
theorem Rank_any (s : SetIn w B g h n l) (i : Int) : Calls Tryz.prog 106 #[.pointer (some ⟨g, 0, none⟩), .int .i64 i] w fun e w' => e = .returned (.int .i64 (rk l i : Int)) ∧ w = w' := by
  obtain ⟨c0, c1⟩ := s.cells
  have hl := s.size.2
  have hn := s.le
  by_cases h0 : i ≤ 0
  · have hr : rk l i = 0 := by unfold rk; rw [show i.toNat = 0 by omega]; rfl
    have HR := Lib.hid hr
    clear hr
    go_enter Tryz.func106, Tryz.ntmps106
    go_wp2_with fail
    go_ret
    exact ⟨ret_of (congrArg (Value.int IntKind.i64) (by rw [HR.out]; rfl)), rfl⟩
  · obtain ⟨k, rfl⟩ : ∃ k : Nat, i = (k : Int) := ⟨i.toNat, by omega⟩
    have hd : decide ((k : Int) ≤ 0) = false := by simpa using h0
    obtain ⟨m, hm⟩ : ∃ m : Nat, m = min k n := ⟨_, rfl⟩
    obtain ⟨kq, hkq⟩ : ∃ kq : Nat, kq = m / 8 := ⟨_, rfl⟩
    obtain ⟨k8, hk8⟩ : ∃ k8 : Nat, k8 = m % 8 := ⟨_, rfl⟩
    have rq : (m : Int) / 8 = (kq : Int) := by omega
    have r8 : (m : Int) % 8 = (k8 : Int) := by omega
    have hkql : kq ≤ l.length := by have := s.size.1; unfold siz at this; omega
    have hmn : m ≤ n := by omega
    have hm9 : m ≤ 65536 := by omega
    have hk9 : kq ≤ 8192 := by omega
    have hk89 : k8 < 8 := by omega
    have HM := Lib.hid (And.intro hm (And.intro hkq hk8))
    have hRK : rk l (k : Int) = cnt (bit l) m := by
      unfold rk
      rw [Int.toNat_natCast, hm]
      by_cases hkn : k ≤ n
      · rw [Nat.min_eq_left hkn]
      · rw [Nat.min_eq_right (by omega), cnt_over s.ok.left k (by omega)]
    have HRK := Lib.hid hRK
    have hmin : (k ≤ n ∧ m = k) ∨ (¬ k ≤ n ∧ m = n) := by omega
    clear hm hkq hk8 hRK
    have hcase : ∀ N : Nat, N ≤ kq → cnt (bit l) (8 * N) ≤ 65536 := fun N hN => by have := cnt_le (bit l) (8 * N); omega
    have HC := Lib.hid hcase
    clear hcase
    rcases hmin with ⟨hkn, hmk⟩ | ⟨hkn, hmk⟩
    all_goals
      subst hmk
      go_enter Tryz.func106, Tryz.ntmps106
      go_wp2_with fail
      go_loop [5, 7, 29] (fun c b i => ∃ t ct : Nat, t ≤ kq ∧ ct ≤ 65536 ∧ i = .int .i64 (t : Int) ∧ c = .int .i64 (ct : Int) ∧ Hid (ct = cnt (bit l) (8 * t))) (fun _ _ i => kq - (intOf i).toNat)
      case atStart => exact ⟨0, 0, by omega, by omega, rfl, rfl, Lib.hid rfl⟩
      case round =>
        obtain ⟨t, ct, ht, hct9, rfl, rfl, hct⟩ := hrel
        by_cases hlt : t < kq
        · have cb := s.byte (show t < l.length by omega)
          have hx := getD_byte s.ok.byte t
          obtain ⟨x, hx0⟩ : ∃ x, x = l.getD t 0 := ⟨_, rfl⟩
          rw [← hx0] at cb hx
          have HX := Lib.hid hx0
          have hpl := pc_le x
          clear hx0
          go_wp2_with fail
          refine (ones_any x _ hx).mono ?_
          rintro e w' ⟨rfl, rfl⟩
          go_wp2_with fail
          go_round
          case rel =>
            have hs := rank_step l t
            rw [← hct.out, ← HX.out] at hs
            exact ⟨t + 1, ct + pc x, by omega, by have := HC.out (t + 1) hlt; omega, by go_num, by go_num, Lib.hid hs.symm⟩
          case measure => simp [intOf]; omega
        · obtain rfl : t = kq := by omega
          by_cases h8 : 0 < k8
          · have hd8 : decide (0 < (k8 : Int)) = true := by simpa using h8
            have hHM := HM.out
            have hsz := s.size.1
            have hkl : t < l.length := by unfold siz at hsz; omega
            have cb := s.byte hkl
            have hx := getD_byte s.ok.byte t
            have hrr := rank_rest l m (by rw [← hHM.2.1]; exact hx) (by omega)
            rw [← hHM.2.1, ← hHM.2.2, ← hct.out] at hrr
            obtain ⟨x, hx0⟩ : ∃ x, x = l.getD t 0 := ⟨_, rfl⟩
            rw [← hx0] at cb hx hrr
            obtain ⟨r, hr⟩ : ∃ r : Nat, r = 8 - k8 := ⟨_, rfl⟩
            rw [← hr] at hrr
            have rr : (8 : Int) - (k8 : Int) = (r : Int) := by omega
            have hr8 : r ≤ 8 := by omega
            have hsh : (x : Int) * 2 ^ r % 256 = ((x * 2 ^ r % 256 : Nat) : Int) := by push_cast; rfl
            obtain ⟨y, hy⟩ : ∃ y, y = x * 2 ^ r % 256 := ⟨_, rfl⟩
            rw [← hy] at hrr hsh
            have hy8 : y < 256 := by omega
            have hpl := pc_le y
            have HRR := Lib.hid hrr
            clear hrr hr hx0 hHM hsz hy
            go_wp2_with fail
            refine (ones_any y _ hy8).mono ?_
            rintro e w' ⟨rfl, rfl⟩
            go_wp2_with fail
            go_ret
            exact ⟨ret_of (congrArg (Value.int IntKind.i64) (by rw [HRK.out, HRR.out]; rfl)), rfl⟩
          · go_wp2_with fail
            go_ret
            refine ⟨ret_of (congrArg (Value.int IntKind.i64) ?_), rfl⟩
            rw [HRK.out, hct.out]
            congr 2
            have := HM.out
            omega
theorem Count_nil (w : World) : Calls Tryz.prog 56 #[.pointer none] w fun e w' => e = .returned (.int .i64 0) ∧ w = w' := by
  go_enter Tryz.func56, Tryz.ntmps56
  go_wp2_with fail
  refine (Len_nil w).mono ?_
  rintro e w' ⟨rfl, rfl⟩
  go_wp2_with fail
  refine (Rank_nil 0 w).mono ?_
  rintro e w' ⟨rfl, rfl⟩
  go_wp2_with fail
  go_ret
  exact ⟨rfl, rfl⟩
theorem Count_any (s : SetIn w B g h n l) : Calls Tryz.prog 56 #[.pointer (some ⟨g, 0, none⟩)] w fun e w' => e = .returned (.int .i64 (cnt (bit l) n : Int)) ∧ w = w' := by
  have hr := Rank_any s (n : Int)
  rw [show rk l (n : Int) = cnt (bit l) n by unfold rk; rw [Int.toNat_natCast]] at hr
  go_enter Tryz.func56, Tryz.ntmps56
  go_wp2_with fail
  refine (Len_any s).mono ?_
  rintro e w' ⟨rfl, rfl⟩
  go_wp2_with fail
  refine hr.mono ?_
  clear hr
  rintro e w' ⟨rfl, rfl⟩
  go_wp2_with fail
  go_ret
  exact ⟨rfl, rfl⟩
end
end Go.Proofs.YticanhidahkhfaaGreatDoor
namespace Go.Proofs.YticanhidahkhfaaGreatDoor
open Go.RowKit
set_option linter.unusedVariables false
set_option linter.unusedSimpArgs false
theorem grown_setRow (w : World) (g : Nat) (cs : Array Value) : w.grownBy (w.setRow g cs) (some g) :=
  ⟨rfl, rfl, rfl, by simp [World.setRow], fun k hk hne => setRow_other w g k cs (fun e => hne (by rw [e]))⟩
theorem wpList_copy_whole {P : Program} {w : World} {ops : Array Oper} {rest : List Oper} {o : Oper} {a : Act} {Q : Exit → Act → World → Prop} (hgd : o.guard = none) (d s : Operand) (dT sT : TypeId)
    (ho : o.op = .call { callee := .builtin .copy, args := #[d, s], argTypes := #[dT, sT] }) (elem : TypeId) (hu : P.underlying dT = some (.slice elem)) (hsz : (P.info? elem).map (·.size) = some 1)
    (g n dCap sCap B : Nat) (A : Option Addr) (t : TypeId) (cur : Array Value) (xs : List Value) (hd : a.eval d = .slice (some ⟨g, 0, none⟩) n dCap) (hs : a.eval s = .slice A n sCap)
    (hg : Blk w g t cur) (hcur : cur.size = n) (hr : Reads w B 1 A n xs) (h1 : ∀ v ∈ xs, v.oneCell' = true)
    (h : ∀ w', Hid (Blk w' g t xs.toArray) → w.grownBy w' (some g) → wpList P ops Q rest (a.put o.dst (goInt n)) w') :
    wpList P ops Q (o :: rest) a w := by
  have hl : xs.length = n := by simpa using hr.1
  rcases Nat.eq_zero_or_pos n with h0 | h0
  · subst h0
    refine wpList_copy_nothing hgd d s dT sT ho elem hu hsz _ _ _ _ _ _ hd hs rfl ?_
    refine h w ?_ (World.grownBy.refl w _)
    obtain rfl : xs = [] := List.eq_nil_of_length_eq_zero hl
    obtain rfl : cur = #[] := Array.eq_empty_of_size_eq_zero hcur
    exact hg
  · obtain ⟨ad, rfl, _, hc⟩ := hr.2 h0
    refine wpList_copy_own hgd d s dT sT ho elem hu hsz g 0 n dCap ad n sCap hd hs cur t hg xs (by rw [hl]; exact (Nat.min_self n).symm) hc (by omega) h1 ?_
    have e : (cur.toList.take 0 ++ (xs ++ cur.toList.drop (0 + xs.length))).toArray = xs.toArray := by
      rw [List.drop_of_length_le (by simp; omega)]; simp
    rw [e, hl]
    exact h _ (setRow_heap w g _ _ t _ hg) (grown_setRow w g _)
end Go.Proofs.YticanhidahkhfaaGreatDoor
namespace Go.Proofs.YticanhidahkhfaaGreatDoor
open Go.RowKit
set_option linter.unusedVariables false
set_option linter.unusedSimpArgs false
set_option maxRecDepth 100000
theorem size_u8 : (Tryz.prog.info? 5).map (·.size) = some 1 := by kernel_rfl
def NewB (w : World) (l : List Nat) (e : Ending) (w' : World) : Prop := ∃ q, e = .returned (.slice (some ⟨q, 0, none⟩) l.length l.length) ∧ Blk w' q 5 (bs l).toArray ∧ w.heap.size ≤ q ∧ Below w.heap.size w w'
theorem Bytes_nil (w : World) : Calls Tryz.prog 102 #[.pointer none] w fun e w' => e = .returned (.slice none 0 0) ∧ w = w' := by
  go_enter Tryz.func102, Tryz.ntmps102
  go_wp2_with fail
  go_ret
  exact ⟨rfl, rfl⟩
section
variable {w : World} {B g h n : Nat} {l : List Nat}
theorem Bytes_any (s : SetIn w B g h n l) : Calls Tryz.prog 102 #[.pointer (some ⟨g, 0, none⟩)] w (NewB w l) := by
  obtain ⟨c0, c1⟩ := s.cells
  have hl := s.size.2
  have hmk := run_make_u8n l.length (by omega)
  have hlen : (bs (List.replicate l.length 0)).toArray.size = l.length := by simp [bs]
  have hlt := s.obj.lt
  have HZ := Lib.hid hlen
  clear hlen
  go_enter Tryz.func102, Tryz.ntmps102
  go_wp2_with (with_reducible
    refine wpList_copy_whole rfl (.tmp 12) (.tmp 16) _ _ rfl 5 Tryz.underlying48 size_u8 w.heap.size l.length l.length l.length (w.heap.size + 1) (some ⟨h, 0, none⟩) 5 _ (bs l) rfl rfl (Blk.new w _ _) HZ.out ((s.alloc _).reads.more (by simp)) (bs_one l) ?_
    intro w2 H2 hg2)
  go_ret
  refine ⟨w.heap.size, rfl, H2.out, Nat.le_refl _, ((Below.refl _ _).alloc (Nat.le_refl _) _).grown hg2 (by simp) (fun k hk => by simp at hk; omega)⟩
end
end Go.Proofs.YticanhidahkhfaaGreatDoor
namespace Go.Proofs.YticanhidahkhfaaGreatDoor
open Go.RowKit
set_option linter.unusedVariables false
set_option linter.unusedSimpArgs false
def vlA (f : Nat → Bool) (kd : Int) (is : List Int) (ts : List Tx) (i : Nat) : Vl :=
  if f i = true then (0, 0, []) else if kd = 1 then (1, (is[i - cnt f i]?).getD 0, []) else (2, 0, (ts[i - cnt f i]?).getD [])
def asm (f : Nat → Bool) (kd : Int) (is : List Int) (ts : List Tx) (n : Nat) : List Vl := (List.range n).map (vlA f kd is ts)
section
variable (f : Nat → Bool) (kd : Int) (is : List Int) (ts : List Tx)
theorem asm_length (n : Nat) : (asm f kd is ts n).length = n := by simp [asm]
theorem asm_succ (n : Nat) : asm f kd is ts (n + 1) = asm f kd is ts n ++ [vlA f kd is ts n] := by simp [asm, List.range_succ]
theorem asm_at {n k : Nat} (h : k < n) : (asm f kd is ts n)[k]? = some (vlA f kd is ts k) := by simp [asm, h]
theorem asm_mem {n : Nat} {v : Vl} (h : v ∈ asm f kd is ts n) : ∃ k, k < n ∧ v = vlA f kd is ts k := by
  obtain ⟨k, hk, e⟩ := List.mem_map.1 h
  exact ⟨k, List.mem_range.1 hk, e.symm⟩
theorem vlA_nul (i : Nat) : nul (vlA f kd is ts i) = f i := by
  unfold vlA nul
  cases e : f i with
  | true => simp
  | false => by_cases hk : kd = 1 <;> simp [hk]
theorem vlA_rgt (hk : kd = 1 ∨ kd = 2) (i : Nat) : rgt kd (vlA f kd is ts i) = true := by
  unfold vlA rgt
  cases e : f i with
  | true => simp
  | false => rcases hk with rfl | rfl <;> simp
theorem non_asm {n k : Nat} (h : k < n) : non (asm f kd is ts n) k = f k := by rw [non_at (asm_at f kd is ts h), vlA_nul]
end
theorem cnt_room (f : Nat → Bool) {k n : Nat} (h : k ≤ n) : k - cnt f k ≤ n - cnt f n := by
  obtain ⟨m, rfl⟩ : ∃ m, n = k + m := ⟨n - k, by omega⟩
  rw [cnt_add]
  have := cnt_le f k
  have := cnt_le (fun j => f (k + j)) m
  omega
theorem cnt_next (f : Nat → Bool) {k : Nat} (h : f k = false) : (k + 1) - cnt f (k + 1) = (k - cnt f k) + 1 := by
  have := cnt_le f k
  rw [cnt, h, if_neg (by decide)]; omega
theorem cnt_skip (f : Nat → Bool) {k : Nat} (h : f k = true) : (k + 1) - cnt f (k + 1) = k - cnt f k := by
  have := cnt_le f k
  rw [cnt, h, if_pos rfl]; omega
theorem ints_asm {f : Nat → Bool} {is : List Int} (ts : List Tx) {n : Nat} (h : is.length = n - cnt f n) : ints (asm f 1 is ts n) = is := by
  have H : ∀ k, k ≤ n → ints (asm f 1 is ts k) = is.take (k - cnt f k) := by
    intro k
    induction k with
    | zero => intro _; simp [asm, ints]
    | succ k ih =>
      intro hk
      rw [asm_succ, ints_append, ih (by omega), ints_one]
      cases e : f k with
      | true => rw [cnt_skip f e]; simp [vlA, e]
      | false =>
        have h1 := cnt_room f (k := k + 1) (n := n) (by omega)
        rw [cnt_next f e] at h1 ⊢
        obtain ⟨z, hz⟩ : ∃ z, is[k - cnt f k]? = some z := ⟨_, List.getElem?_eq_getElem (by omega)⟩
        rw [take_snoc hz]
        simp [vlA, e, hz]
  rw [H n (Nat.le_refl n), ← h, List.take_length]
theorem wrds_asm {f : Nat → Bool} {ts : List Tx} (is : List Int) {n : Nat} (h : ts.length = n - cnt f n) : wrds (asm f 2 is ts n) = ts := by
  have H : ∀ k, k ≤ n → wrds (asm f 2 is ts k) = ts.take (k - cnt f k) := by
    intro k
    induction k with
    | zero => intro _; simp [asm, wrds]
    | succ k ih =>
      intro hk
      rw [asm_succ, wrds_append, ih (by omega), wrds_one]
      cases e : f k with
      | true => rw [cnt_skip f e]; simp [vlA, e]
      | false =>
        have h1 := cnt_room f (k := k + 1) (n := n) (by omega)
        rw [cnt_next f e] at h1 ⊢
        obtain ⟨z, hz⟩ : ∃ z, ts[k - cnt f k]? = some z := ⟨_, List.getElem?_eq_getElem (by omega)⟩
        rw [take_snoc hz]
        simp [vlA, e, hz]
  rw [H n (Nat.le_refl n), ← h, List.take_length]
theorem asm_in {f : Nat → Bool} {kd : Int} {is : List Int} {ts : List Tx} {n : Nat} (h : ∀ z ∈ is, In64 z) : ∀ v ∈ asm f kd is ts n, In64 v.2.1 := by
  intro v hv
  obtain ⟨k, _, rfl⟩ := asm_mem f kd is ts hv
  have h0 : In64 0 := by unfold In64; omega
  unfold vlA
  split
  · exact h0
  · split
    · cases e : is[k - cnt f k]? with
      | none => exact h0
      | some z => exact h z (List.mem_of_getElem? e)
    · exact h0
theorem asm_short {f : Nat → Bool} {kd : Int} {is : List Int} {ts : List Tx} {n q : Nat} (h : ∀ s ∈ ts, s.length ≤ q) : ∀ v ∈ asm f kd is ts n, v.2.2.length ≤ q := by
  intro v hv
  obtain ⟨k, _, rfl⟩ := asm_mem f kd is ts hv
  unfold vlA
  split
  · exact Nat.zero_le _
  · split
    · exact Nat.zero_le _
    · cases e : ts[k - cnt f k]? with
      | none => exact Nat.zero_le _
      | some z => exact h z (List.mem_of_getElem? e)
theorem asm_ck {f : Nat → Bool} {kd : Int} {is : List Int} {ts : List Tx} {n : Nat} (hk : kd = 1 ∨ kd = 2) (hn : n ≤ 65536) (h : ∀ s ∈ ts, s.length ≤ 65536) : ckE kd (asm f kd is ts n) = 0 :=
  ckE_of (by rw [asm_length]; exact hn) (asm_short h) fun v hv => by obtain ⟨k, _, rfl⟩ := asm_mem f kd is ts hv; exact vlA_rgt f kd is ts hk k
theorem mem_at {l : List Vl} {k : Nat} {v : Vl} (h : l[k]? = some v) : v ∈ l := List.mem_of_getElem? h
theorem ints_count {l : List Vl} (h : ∀ v ∈ l, rgt 1 v = true) : ∀ k, k ≤ l.length → (ints (l.take k)).length = k - cnt (non l) k := by
  intro k
  induction k with
  | zero => intro _; simp [ints]
  | succ k ih =>
    intro hk
    obtain ⟨v, hv⟩ : ∃ v, l[k]? = some v := ⟨_, List.getElem?_eq_getElem (by omega)⟩
    rw [ints_step hv, List.length_append, ih (by omega)]
    rcases rgt_kind (h v (mem_at hv)) with e | ⟨e, _, _⟩ | ⟨_, e, _⟩
    · rw [cnt_skip _ (by rw [non_at hv, e]; rfl), e]; rfl
    · rw [cnt_next _ (by rw [non_at hv]; unfold nul; rw [e]; rfl), if_pos e]; rfl
    · omega
theorem wrds_count {l : List Vl} (h : ∀ v ∈ l, rgt 2 v = true) : ∀ k, k ≤ l.length → (wrds (l.take k)).length = k - cnt (non l) k := by
  intro k
  induction k with
  | zero => intro _; simp [wrds]
  | succ k ih =>
    intro hk
    obtain ⟨v, hv⟩ : ∃ v, l[k]? = some v := ⟨_, List.getElem?_eq_getElem (by omega)⟩
    rw [wrds_step hv, List.length_append, ih (by omega)]
    rcases rgt_kind (h v (mem_at hv)) with e | ⟨_, e, _⟩ | ⟨e, _, _⟩
    · rw [cnt_skip _ (by rw [non_at hv, e]; rfl), e]; rfl
    · omega
    · rw [cnt_next _ (by rw [non_at hv]; unfold nul; rw [e]; rfl), if_pos e]; rfl
theorem ints_all {l : List Vl} (h : ∀ v ∈ l, rgt 1 v = true) : (ints l).length = l.length - cnt (non l) l.length := by
  have := ints_count h l.length (Nat.le_refl _); rwa [List.take_length] at this
theorem wrds_all {l : List Vl} (h : ∀ v ∈ l, rgt 2 v = true) : (wrds l).length = l.length - cnt (non l) l.length := by
  have := wrds_count h l.length (Nat.le_refl _); rwa [List.take_length] at this
theorem ints_at {l : List Vl} (h : ∀ v ∈ l, rgt 1 v = true) {k : Nat} {v : Vl} (hv : l[k]? = some v) (h1 : v.1 = 1) : (ints l)[k - cnt (non l) k]? = some v.2.1 := by
  have hk : k < l.length := (List.getElem?_eq_some_iff.1 hv).1
  have e : ints l = ints (l.take (k + 1)) ++ ints (l.drop (k + 1)) := by rw [← ints_append, List.take_append_drop]
  rw [e, ints_step hv, if_pos h1, List.append_assoc, ← ints_count h k (by omega), List.getElem?_append_right (Nat.le_refl _), Nat.sub_self]; rfl
theorem wrds_at {l : List Vl} (h : ∀ v ∈ l, rgt 2 v = true) {k : Nat} {v : Vl} (hv : l[k]? = some v) (h1 : v.1 = 2) : (wrds l)[k - cnt (non l) k]? = some v.2.2 := by
  have hk : k < l.length := (List.getElem?_eq_some_iff.1 hv).1
  have e : wrds l = wrds (l.take (k + 1)) ++ wrds (l.drop (k + 1)) := by rw [← wrds_append, List.take_append_drop]
  rw [e, wrds_step hv, if_pos h1, List.append_assoc, ← wrds_count h k (by omega), List.getElem?_append_right (Nat.le_refl _), Nat.sub_self]; rfl
theorem asm_of {kd : Int} {l : List Vl} (h : ∀ v ∈ l, rgt kd v = true) : asm (non l) kd (ints l) (wrds l) l.length = l := by
  apply List.ext_getElem?
  intro k
  rcases Nat.lt_or_ge k l.length with hk | hk
  · obtain ⟨v, hv⟩ : ∃ v, l[k]? = some v := ⟨_, List.getElem?_eq_getElem hk⟩
    rw [asm_at _ _ _ _ hk, hv]
    congr 1
    unfold vlA
    rw [non_at hv]
    obtain ⟨a, b, c⟩ := v
    rcases rgt_kind (h _ (mem_at hv)) with e | ⟨e1, e2, e3⟩ | ⟨e1, e2, e3⟩
    · cases e; rfl
    · obtain rfl : a = 1 := e1
      obtain rfl : c = [] := e3
      subst e2
      rw [ints_at h hv rfl]; rfl
    · obtain rfl : a = 2 := e1
      obtain rfl : b = 0 := e3
      subst e2
      rw [wrds_at h hv rfl]; rfl
  · rw [List.getElem?_eq_none (by rw [asm_length]; omega), List.getElem?_eq_none hk]
end Go.Proofs.YticanhidahkhfaaGreatDoor
namespace Go.Proofs.YticanhidahkhfaaGreatDoor
open Go.RowKit
set_option linter.unusedVariables false
set_option linter.unusedSimpArgs false
def oth (l : List Vl) : List Vl := l.filter fun v => !nul v
theorem oth_append (a b : List Vl) : oth (a ++ b) = oth a ++ oth b := by simp [oth]
theorem oth_one (v : Vl) : oth [v] = if nul v = true then [] else [v] := by unfold oth; cases h : nul v <;> simp [h]
theorem oth_step {l : List Vl} {k : Nat} {v : Vl} (h : l[k]? = some v) : oth (l.take (k + 1)) = oth (l.take k) ++ if nul v = true then [] else [v] := by rw [take_snoc h, oth_append, oth_one]
theorem oth_length_le (l : List Vl) : (oth l).length ≤ l.length := List.length_filter_le _ _
theorem oth_mem {l : List Vl} {v : Vl} (h : v ∈ oth l) : v ∈ l ∧ nul v = false := by
  unfold oth at h
  rw [List.mem_filter] at h
  exact ⟨h.1, by simpa using h.2⟩
theorem ints_oth (l : List Vl) : ints (oth l) = ints l := by
  induction l with
  | nil => rfl
  | cons v l ih =>
    have e : ∀ x : List Vl, ints (v :: x) = ints [v] ++ ints x := fun x => by rw [← ints_append]; rfl
    have e2 : oth (v :: l) = oth [v] ++ oth l := by rw [← oth_append]; rfl
    rw [e2, ints_append, ih, e l, oth_one]
    cases h : nul v with
    | true =>
      have : v.1 = 0 := by simpa [nul] using h
      rw [if_pos rfl, ints_one, if_neg (by omega)]; rfl
    | false => rfl
theorem wrds_oth (l : List Vl) : wrds (oth l) = wrds l := by
  induction l with
  | nil => rfl
  | cons v l ih =>
    have e : ∀ x : List Vl, wrds (v :: x) = wrds [v] ++ wrds x := fun x => by rw [← wrds_append]; rfl
    have e2 : oth (v :: l) = oth [v] ++ oth l := by rw [← oth_append]; rfl
    rw [e2, wrds_append, ih, e l, oth_one]
    cases h : nul v with
    | true =>
      have : v.1 = 0 := by simpa [nul] using h
      rw [if_pos rfl, wrds_one, if_neg (by omega)]; rfl
    | false => rfl
theorem frm_oth (way : Nat) (l : List Vl) : frm way (oth l) = frm way l := by unfold frm; rw [ints_oth, wrds_oth]
theorem oth_kind {kd : Int} {l : List Vl} (h : ∀ v ∈ l, rgt kd v = true) : ∀ v ∈ oth l, v.1 = kd := by
  intro v hv
  obtain ⟨h1, h2⟩ := oth_mem hv
  rcases rgt_kind (h v h1) with e | ⟨e, e2, _⟩ | ⟨e, e2, _⟩
  · rw [e] at h2; cases h2
  · omega
  · omega
def nums (o : List Vl) : List Int := o.map fun v => v.2.1
def txts (o : List Vl) : List Tx := o.map fun v => v.2.2
theorem nums_length (o : List Vl) : (nums o).length = o.length := by simp [nums]
theorem txts_length (o : List Vl) : (txts o).length = o.length := by simp [txts]
theorem nums_ints {o : List Vl} (h : ∀ v ∈ o, v.1 = 1) : nums o = ints o := by
  induction o with
  | nil => rfl
  | cons v o ih =>
    have e : ints (v :: o) = ints [v] ++ ints o := by rw [← ints_append]; rfl
    rw [e, ints_one, if_pos (h v (by simp)), ← ih fun x hx => h x (by simp [hx])]; rfl
theorem txts_wrds {o : List Vl} (h : ∀ v ∈ o, v.1 = 2) : txts o = wrds o := by
  induction o with
  | nil => rfl
  | cons v o ih =>
    have e : wrds (v :: o) = wrds [v] ++ wrds o := by rw [← wrds_append]; rfl
    rw [e, wrds_one, if_pos (h v (by simp)), ← ih fun x hx => h x (by simp [hx])]; rfl
def ofN (l : List Int) : List Vl := l.map fun z => (1, z, [])
def ofT (l : List Tx) : List Vl := l.map fun s => (2, 0, s)
theorem ofN_length (l : List Int) : (ofN l).length = l.length := by simp [ofN]
theorem ofT_length (l : List Tx) : (ofT l).length = l.length := by simp [ofT]
def stK (f : Nat → Bool) (k n : Nat) : List Nat := (sel f k).foldl mark (List.replicate (siz n) 0)
theorem stK_zero (f : Nat → Bool) (n : Nat) : stK f 0 n = List.replicate (siz n) 0 := rfl
theorem stK_all (f : Nat → Bool) (n : Nat) : stK f n n = setB f n := rfl
theorem stK_mark {f : Nat → Bool} {k : Nat} (n : Nat) (h : f k = true) : stK f (k + 1) n = mark (stK f k n) k := by
  unfold stK
  rw [sel, h]
  simp
theorem stK_skip {f : Nat → Bool} {k : Nat} (n : Nat) (h : f k = false) : stK f (k + 1) n = stK f k n := by
  unfold stK
  rw [sel, h]
  simp
theorem stK_bit (f : Nat → Bool) {k n : Nat} (h : k < n) : bit (stK f k n) k = false := by
  have hp : ∀ p ∈ sel f k, p < n := fun p hp => by have := (sel_mem f k p).1 hp; omega
  rw [stK, (marks_ok (sel f k) _ (OkS.new n) hp).2, bit_zeros, Bool.or_false]
  have : ¬ k ∈ sel f k := fun e => by have := (sel_mem f k k).1 e; omega
  simp [this]
def tgA (f : Nat → Bool) (o : List Vl) (i : Nat) : Vl := if f i = true then (0, 0, []) else (o[i - cnt f i]?).getD (0, 0, [])
def tog (f : Nat → Bool) (o : List Vl) (n : Nat) : List Vl := (List.range n).map (tgA f o)
theorem tog_length (f : Nat → Bool) (o : List Vl) (n : Nat) : (tog f o n).length = n := by simp [tog]
theorem tog_at (f : Nat → Bool) (o : List Vl) {n k : Nat} (h : k < n) : (tog f o n)[k]? = some (tgA f o k) := by simp [tog, h]
theorem tgA_next {f : Nat → Bool} {o : List Vl} {k : Nat} {v : Vl} (h : f k = false) (hv : o[k - cnt f k]? = some v) : tgA f o k = v := by unfold tgA; rw [h, hv]; rfl
theorem tgA_null {f : Nat → Bool} (o : List Vl) {k : Nat} (h : f k = true) : tgA f o k = (0, 0, []) := by unfold tgA; rw [if_pos h]
theorem tog_num {f : Nat → Bool} {is : List Int} (ts : List Tx) {n : Nat} (h : is.length = n - cnt f n) : tog f (ofN is) n = asm f 1 is ts n := by
  apply List.ext_getElem?
  intro k
  rcases Nat.lt_or_ge k n with hk | hk
  · rw [tog_at _ _ hk, asm_at _ _ _ _ hk]
    unfold tgA vlA
    cases e : f k with
    | true => rfl
    | false =>
      have h1 := cnt_room f (k := k + 1) (n := n) (by omega)
      rw [cnt_next f e] at h1
      obtain ⟨z, hz⟩ : ∃ z, is[k - cnt f k]? = some z := ⟨_, List.getElem?_eq_getElem (by omega)⟩
      simp [ofN, hz]
  · rw [List.getElem?_eq_none (by rw [tog_length]; omega), List.getElem?_eq_none (by rw [asm_length]; omega)]
theorem tog_txt {f : Nat → Bool} {ts : List Tx} (is : List Int) {n : Nat} (h : ts.length = n - cnt f n) : tog f (ofT ts) n = asm f 2 is ts n := by
  apply List.ext_getElem?
  intro k
  rcases Nat.lt_or_ge k n with hk | hk
  · rw [tog_at _ _ hk, asm_at _ _ _ _ hk]
    unfold tgA vlA
    cases e : f k with
    | true => rfl
    | false =>
      have h1 := cnt_room f (k := k + 1) (n := n) (by omega)
      rw [cnt_next f e] at h1
      obtain ⟨z, hz⟩ : ∃ z, ts[k - cnt f k]? = some z := ⟨_, List.getElem?_eq_getElem (by omega)⟩
      simp [ofT, hz]
  · rw [List.getElem?_eq_none (by rw [tog_length]; omega), List.getElem?_eq_none (by rw [asm_length]; omega)]
end Go.Proofs.YticanhidahkhfaaGreatDoor
namespace Go.Proofs.YticanhidahkhfaaGreatDoor
open Go.RowKit
set_option linter.unusedVariables false
set_option linter.unusedSimpArgs false
set_option maxRecDepth 100000
theorem info_val : (Tryz.prog.info? 50).map (fun i => (i.zero, i.size, i.bytes)) = some (some (.agg #[.int .i64 0, .int .i64 0, .string ⟨#[]⟩]), 3, 32) := by kernel_rfl
theorem made_vs (n : Nat) : madeCells #[.int .i64 0, .int .i64 0, .string ⟨#[]⟩] (n * 3) = (vs (List.replicate n (0, 0, []))).toArray := by
  apply Array.ext'
  apply List.ext_getElem?
  intro j
  have hl : (vs (List.replicate n ((0 : Int), (0 : Int), ([] : Tx)))).length = n * 3 := by rw [vs_length, List.length_replicate]
  by_cases hj : j < n * 3
  · have hy : (List.replicate n ((0 : Int), (0 : Int), ([] : Tx)))[j / 3]? = some (0, 0, []) := by rw [List.getElem?_replicate, if_pos (by omega)]
    obtain ⟨h1, h2, h3⟩ := vs_at hy
    have hr : j % 3 = 0 ∧ j = j / 3 * 3 ∨ j % 3 = 1 ∧ j = j / 3 * 3 + 1 ∨ j % 3 = 2 ∧ j = j / 3 * 3 + 2 := by omega
    rcases hr with ⟨e, e'⟩ | ⟨e, e'⟩ | ⟨e, e'⟩
    · rw [← e'] at h1; rw [List.toList_toArray, h1]; simp [madeCells, hj, e]
    · rw [← e'] at h2; rw [List.toList_toArray, h2]; simp [madeCells, hj, e]
    · rw [← e'] at h3; rw [List.toList_toArray, h3]; simp [madeCells, hj, e]
  · rw [List.getElem?_eq_none (by simp [madeCells]; omega), List.getElem?_eq_none (by rw [List.toList_toArray]; omega)]
theorem run_make_vals (n : Nat) (hn : n ≤ 8796093022208) (w : World) :
    (Instr.makeSlice 81 (.int .i64 (n : Int)) (.int .i64 (n : Int))).run Tryz.prog w = .ok (.slice (some ⟨w.heap.size, 0, none⟩) n n) (w.alloc (.cells (vs (List.replicate n (0, 0, []))).toArray 50)) := by
  obtain ⟨i, hi, hz0, hz1, hz2⟩ := info_parts info_val
  have hr := run_make (P := Tryz.prog) w 81 50 i _ Tryz.underlying81 hi hz0 .i64 .i64 n n (by omega) (by omega) (by rw [hz2]; omega) (by omega)
  rw [hz1] at hr
  simp only [Int.toNat_natCast, Value.cells] at hr
  rw [made_vs] at hr
  exact hr
def fillV (o : List (Int × Int × Tx)) (k : Nat) : Array Value := (vs (o.take k ++ List.replicate (o.length - k) (0, 0, []))).toArray
theorem fillV_zero (o : List (Int × Int × Tx)) (n : Nat) (h : o.length = n) : fillV o 0 = (vs (List.replicate n (0, 0, []))).toArray := by unfold fillV; simp [h]
theorem fillV_all (o : List (Int × Int × Tx)) (n : Nat) (h : o.length = n) : fillV o n = (vs o).toArray := by
  unfold fillV
  rw [List.take_of_length_le (by omega), h, Nat.sub_self]; simp
theorem vs_set : ∀ (l : List (Int × Int × Tx)) (k : Nat) (v : Int × Int × Tx), (((vs l).set (k * 3) (.int .i64 v.1)).set (k * 3 + 1) (.int .i64 v.2.1)).set (k * 3 + 2) (.string ⟨v.2.2.toArray⟩) = vs (l.set k v)
  | [], k, v => by simp [vs]
  | x :: l, 0, v => by simp [vs_cons, vc]
  | x :: l, k + 1, v => by
    have ih := vs_set l k v
    rw [List.set_cons_succ, vs_cons, vs_cons, ← ih, show (k + 1) * 3 = k * 3 + 3 by omega]
    simp [vc]
theorem fillV_next (o : List (Int × Int × Tx)) (k : Nat) (v : Int × Int × Tx) (h : o[k]? = some v) :
    (((fillV o k).setIfInBounds (k * 3) (.int .i64 v.1)).setIfInBounds (k * 3 + 1) (.int .i64 v.2.1)).setIfInBounds (k * 3 + 2) (.string ⟨v.2.2.toArray⟩) = fillV o (k + 1) := by
  have hk : k < o.length := (List.getElem?_eq_some_iff.1 h).1
  unfold fillV
  rw [List.setIfInBounds_toArray, List.setIfInBounds_toArray, List.setIfInBounds_toArray, vs_set]
  congr 2
  apply List.ext_getElem?
  intro i
  rw [List.getElem?_set]
  by_cases hi : k = i
  · subst hi
    rw [if_pos rfl, if_pos (by simp; omega), List.getElem?_append_left (by simp; omega), List.getElem?_take, if_pos (by omega), h]
  · rw [if_neg hi]
    by_cases h2 : i < k
    · rw [List.getElem?_append_left (by simp; omega), List.getElem?_append_left (by simp; omega), List.getElem?_take, List.getElem?_take, if_pos h2, if_pos (by omega)]
    · rw [List.getElem?_append_right (by simp; omega), List.getElem?_append_right (by simp; omega), List.getElem?_replicate, List.getElem?_replicate]
      simp only [List.length_take]
      by_cases h3 : i < o.length
      · rw [if_pos (by omega), if_pos (by omega)]
      · rw [if_neg (by omega), if_neg (by omega)]
theorem Blk.val {w : World} {h k : Nat} {t : TypeId} {o : List (Int × Int × Tx)} {v : Int × Int × Tx} (hb : Blk w h t (fillV o k)) (hv : o[k]? = some v) :
    Blk (((w.setCell ⟨h, k * 3, none⟩ (.int .i64 v.1)).setCell ⟨h, k * 3 + 1, none⟩ (.int .i64 v.2.1)).setCell ⟨h, k * 3 + 2, none⟩ (.string ⟨v.2.2.toArray⟩)) h t (fillV o (k + 1)) := by
  have := ((hb.set_ (k * 3) (.int .i64 v.1)).set_ (k * 3 + 1) (.int .i64 v.2.1)).set_ (k * 3 + 2) (.string ⟨v.2.2.toArray⟩)
  rwa [fillV_next o k v hv] at this
theorem fillV_old (o : List (Int × Int × Tx)) (k j : Nat) (h : k ≤ j) (hj : j < o.length) : (fillV o k)[j * 3]? = some (.int .i64 0) ∧ (fillV o k)[j * 3 + 1]? = some (.int .i64 0) ∧ (fillV o k)[j * 3 + 2]? = some (.string ⟨#[]⟩) := by
  have hy : (o.take k ++ List.replicate (o.length - k) ((0 : Int), (0 : Int), ([] : Tx)))[j]? = some (0, 0, []) := by
    rw [List.getElem?_append_right (by rw [List.length_take]; omega), List.getElem?_replicate, if_pos (by rw [List.length_take]; omega)]
  obtain ⟨h1, h2, h3⟩ := vs_at hy
  unfold fillV
  rw [List.getElem?_toArray, List.getElem?_toArray, List.getElem?_toArray]
  exact ⟨h1, h2, h3⟩
theorem fillV_skip (o : List (Int × Int × Tx)) (k : Nat) (h : o[k]? = some (0, 0, [])) : fillV o (k + 1) = fillV o k := by
  have hk : k < o.length := (List.getElem?_eq_some_iff.1 h).1
  unfold fillV
  congr 2
  apply List.ext_getElem?
  intro i
  by_cases h2 : i < k
  · rw [List.getElem?_append_left (by simp; omega), List.getElem?_append_left (by simp; omega), List.getElem?_take, List.getElem?_take, if_pos h2, if_pos (by omega)]
  · by_cases hi : i = k
    · subst hi
      rw [List.getElem?_append_left (by simp; omega), List.getElem?_take, if_pos (by omega), h, List.getElem?_append_right (by simp; omega), List.getElem?_replicate, if_pos (by simp; omega)]
    · rw [List.getElem?_append_right (by simp; omega), List.getElem?_append_right (by simp; omega), List.getElem?_replicate, List.getElem?_replicate]
      simp only [List.length_take]
      by_cases h3 : i < o.length
      · rw [if_pos (by omega), if_pos (by omega)]
      · rw [if_neg (by omega), if_neg (by omega)]
theorem own_whole3 {w : World} {B h n : Nat} {t : TypeId} {o : List (Int × Int × Tx)} (hb : Blk w h t (vs o).toArray) (hB : B ≤ h) (hn : o.length = n) (hm : n ≤ maxLen) :
    w.ownsRow B t 3 (.slice (some ⟨h, 0, none⟩) n n) n (vs o) := by
  have hl := vs_length o
  exact ⟨by omega, .inr ⟨h, n, (vs o).toArray, rfl, hB, hb, Nat.le_refl _, hm, by simp; omega, by simp; rw [List.take_of_length_le (by omega)]⟩⟩
end Go.Proofs.YticanhidahkhfaaGreatDoor
