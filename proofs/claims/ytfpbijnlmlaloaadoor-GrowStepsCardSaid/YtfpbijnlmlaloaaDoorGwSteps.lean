/- The walk of the statement GrowSteps: its region in which three roots are told and three variables made. -/
import Derived.Test.YtfpbijnlmlaloaaDoorGwAwake
import Derived.Test.YtfpbijnlmlaloaaDoorGwRefChk
import Derived.Test.YtfpbijnlmlaloaaDoorTrGreat
import Derived.Test.YtfpbijnlmlaloaaDoorPick
namespace Go.Proofs.YtfpbijnlmlaloaaDoor
open Go.RowKit
set_option linter.unusedVariables false
set_option linter.unusedSimpArgs false
set_option maxRecDepth 100000
attribute [local go_sem ↓] Go.wp_at_zero Go.wp_at_succ

theorem addB_zero (a : Addr) : a.add 0 = a := by unfold Addr.add; simp
theorem mapB_zero (A : Option Addr) : A.map (·.add 0) = A := by cases A <;> simp [addB_zero]
theorem elem_bytes : Tryd.prog.elem 22 = 36 := by kernel_rfl
theorem sizeOf_bytes (W : World) : (sizeOf 36).run Tryd.prog W = .ok 1 W := by
  obtain ⟨i, hi, hz⟩ := Option.map_eq_some_iff.1 (show (Tryd.prog.info? 36).map (·.size) = some 1 by kernel_rfl)
  simp [sizeOf, typeInfo, hi, hz]
theorem sliceB_front (A : Option Addr) (n c p : Nat) (hp : p ≤ c) (W : World) : (Instr.sliceAt 22 (.slice A n c) none (some (.int .i64 (p : Int))) none).run Tryd.prog W = .ok (.slice A p c) W := by
  rw [run_sliceAt_slice W 22 _ _ _ _ (by rw [elem_bytes]; exact Tryd.underlying22), run_slice_h W 22 A n c (by rw [elem_bytes]; exact Tryd.underlying22) .i64 (p : Int) (by omega) (by omega), elem_bytes, sizeOf_bytes]
  have h : (if c = 0 then A else A.map (·.add 0)) = A := by rw [mapB_zero]; simp
  simp [Result.andThen, sliced, mapB_zero]
/-- The greatest of three, where none is above a number. -/
theorem run_max3 {P : Program} (ts : Array TypeId) (t : TypeId) (x y z B : Int) (hx : x ≤ B) (hy : y ≤ B) (hz : z ≤ B) : ∃ M : Int, M ≤ B ∧ ∀ W, (Builtin.max_ ts t #[.int .i64 x, .int .i64 y, .int .i64 z]).run P W = .ok (.int .i64 M) W := by
  refine ⟨if z > (if y > x then y else x) then z else (if y > x then y else x), ?_, fun W => ?_⟩
  · repeat' split
    all_goals assumption
  · simp [Builtin.max_, Builtin.max2, Sem.run_bind, Sem.run_pure, Result.andThen_ok]
/-- The region's goal, all of it by names. -/
theorem with_states {P : Program} {md : Region.Mode} {ops : Array Oper} {Q : Exit → Act → World → Prop} {S : World → Prop} {fuel : Nat} {listed : Array Bool} {a : Act} {w : World}
    (h : ∀ (R : Nat → Array Bool → Act → World → Prop) (a0 : Act), wpAnyH P md ops Q S = R → a = a0 → R fuel listed a0 w) : wpAnyH P md ops Q S fuel listed a w := h _ _ rfl rfl
set_option maxHeartbeats 8000000 in
theorem steps20_any (A : Option Addr) (n c : Nat) (ls : List (List Nat)) (a b : Int) (w : World) (hn : ls.length = n) (hp : LC w A ls) (hbt : ∀ l ∈ ls, ∀ b ∈ l, b < 256) (hc : n ≤ c) (hm : n ≤ 9223372036854775807) (ha : -9223372036854775808 ≤ a ∧ a ≤ 9223372036854775807) (hb : -9223372036854775808 ≤ b ∧ b ≤ 9223372036854775807) (ht : ShTab w) :
    Calls Tryd.prog 5 #[.slice A n c, .int .i64 a, .int .i64 b] w fun e w' => e = .returned (.bool true) ∧ Below w.heap.size w w' := by
  obtain ⟨g, hg⟩ : ∃ g, g = grL ls 30 60 := ⟨_, rfl⟩
  have HG := Lib.hid (greatL_any A n c 30 60 ls w hn hp (by omega) (by omega) g hg)
  have HGF := Lib.hid fun h : g = false => grL_false (by rw [← hg]; exact h)
  have HAW := Lib.hid fun (W : World) (hW : Below w.heap.size w W) => awake20_any W (ht.next hW)
  cases g with
  | true =>
    have HA1 := Lib.hid (HAW.out w (Below.refl _ _))
    clear hg ht hp hbt hn HGF HAW
    go_enter Tryd.func5, Tryd.ntmps5
    go_wp2_with fail
    refine HG.out.mono ?_
    rintro _ _ ⟨rfl, rfl⟩
    go_wp2_with fail
    refine HA1.out.mono ?_
    rintro _ w2 ⟨rfl, hb⟩
    go_wp2_with fail
    go_ret
    exact ⟨rfl, hb⟩
  | false =>
    obtain ⟨h30, h60⟩ := HGF.out rfl
    rw [hn] at h30
    have HP1 := Lib.hid (pick_any b (n + 1) w hb.1 hb.2 (by omega) (by omega))
    rw [show ((n + 1 : Nat) : Int) = (n : Int) + 1 by omega] at HP1
    have HP2 := Lib.hid fun (j : Nat) (hj : j ≤ n) => pick_any a (j + 1) w ha.1 ha.2 (by omega) (by omega)
    have hw1 : IntKind.i64.wrap ((n : Int) + 1) = (n : Int) + 1 := IntWalk.i64_in _ (by omega)
    have HN := Lib.hid hn; have HP := Lib.hid hp; have HBT := Lib.hid hbt; have HT := Lib.hid ht
    have H60 : Hid (∀ l ∈ ls, l.length ≤ 1000000) := Lib.hid fun l hl => by have := h60 l hl; omega
    have H60b : Hid (∀ l ∈ ls, l.length ≤ 4294960000) := Lib.hid fun l hl => by have := h60 l hl; omega
    have HC := Lib.hid hc
    clear hg ht hp hbt hn HGF h60 ha hb hm
    go_enter Tryd.func5, Tryd.ntmps5
    go_wp2_with fail
    refine HG.out.mono ?_
    rintro _ _ ⟨rfl, rfl⟩
    go_wp2_with fail
    refine HP1.out.mono ?_
    rintro _ _ ⟨j, hj, rfl, rfl⟩
    have hjn : j ≤ n := by omega
    have HPI := Lib.hid (HP2.out j hjn)
    rw [show ((j + 1 : Nat) : Int) = (j : Int) + 1 by omega] at HPI
    have hw2 : IntKind.i64.wrap ((j : Int) + 1) = (j : Int) + 1 := IntWalk.i64_in _ (by omega)
    go_wp2_with fail
    refine HPI.out.mono ?_
    rintro _ _ ⟨i, hi, rfl, rfl⟩
    have hij : i ≤ j := by omega
    have hsj := sliceB_front A n c j (by omega)
    have hsi := sliceB_front A n c i (by omega)
    have lj : (ls.take j).length = j := by rw [List.length_take, HN.out]; omega
    have li : (ls.take i).length = i := by rw [List.length_take, HN.out]; omega
    have tt : (ls.take j).take i = ls.take i := by rw [List.take_take, Nat.min_eq_left hij]
    have HLJ := Lib.hid lj; have HLI := Lib.hid li; have HTT := Lib.hid tt
    have HC1 := Lib.hid (gwProof_yes j i (ls.take j) A c w lj hij (by omega) (HP.out.fore (by rw [HN.out]; exact hjn)) (fun l hl => HBT.out l (List.mem_of_mem_take hl)) (fun l hl => H60.out l (List.mem_of_mem_take hl)) (by omega) HT.out)
    have HC2 := Lib.hid fun (W : World) (hW : Below w.heap.size w W) => gwProof_yes n j ls A c W HN.out hjn (by omega) (HP.out.next hW) HBT.out H60.out HC.out (HT.out.next hW)
    have HC3 := Lib.hid fun (W : World) (hW : Below w.heap.size w W) => gwProof_yes n i ls A c W HN.out (by omega) (by omega) (HP.out.next hW) HBT.out H60.out HC.out (HT.out.next hW)
    have len6 : ∀ (l : List (List Nat)) (k : Nat), k ≤ l.length → l.length ≤ 30 → (proofD l k).length ≤ 6 := by
      intro l k hk hl
      have h2 := proofD_len l k hk
      unfold sizeD at h2
      rw [if_neg (by omega)] at h2
      by_cases h0 : (k : Int) = 0
      · rw [if_pos h0] at h2; omega
      · rw [if_neg h0] at h2
        simp only [Int.toNat_natCast] at h2
        have := szD_le 5 l.length k false (by omega) (by omega) hk
        omega
    obtain ⟨xs, hxs⟩ : ∃ xs, proofD (ls.take j) i = xs := ⟨_, rfl⟩
    obtain ⟨ys, hys⟩ : ∃ ys, proofD ls j = ys := ⟨_, rfl⟩
    obtain ⟨zs, hzs⟩ : ∃ zs, proofD ls i = zs := ⟨_, rfl⟩
    have HX6 : Hid (xs.length ≤ 6) := Lib.hid (by rw [← hxs]; exact len6 _ _ (by omega) (by omega))
    have HY6 : Hid (ys.length ≤ 6) := Lib.hid (by rw [← hys]; exact len6 _ _ (by rw [HN.out]; exact hjn) (by rw [HN.out]; exact h30))
    have HZ6 : Hid (zs.length ≤ 6) := Lib.hid (by rw [← hzs]; exact len6 _ _ (by rw [HN.out]; omega) (by rw [HN.out]; exact h30))
    have HXD : Hid (Dg xs) := Lib.hid (by rw [← hxs]; exact proofD_dg _ _)
    have HYD : Hid (Dg ys) := Lib.hid (by rw [← hys]; exact proofD_dg _ _)
    have HZD : Hid (Dg zs) := Lib.hid (by rw [← hzs]; exact proofD_dg _ _)
    obtain ⟨pa, hpa⟩ : ∃ d, rootL (ls.take i) = d := ⟨_, rfl⟩
    obtain ⟨pb, hpb⟩ : ∃ d, rootL (ls.take j) = d := ⟨_, rfl⟩
    obtain ⟨pc, hpc⟩ : ∃ d, rootL ls = d := ⟨_, rfl⟩
    have hpa32 : pa.length = 32 := by rw [← hpa]; exact rootL_len _
    have hpb32 : pb.length = 32 := by rw [← hpb]; exact rootL_len _
    have hpc32 : pc.length = 32 := by rw [← hpc]; exact rootL_len _
    have hpaB : ∀ x ∈ pa, x < 256 := by rw [← hpa]; exact rootL_byte _
    have hpbB : ∀ x ∈ pb, x < 256 := by rw [← hpb]; exact rootL_byte _
    have HK1 : Hid (checkD (i : Int) (j : Int) pa pb xs = true) := Lib.hid (by
      have := checkD_proof (ls.take j) i (by omega) (by omega)
      rw [lj, tt, hpa, hpb, hxs] at this
      exact this)
    have HK2 : Hid (checkD (j : Int) (n : Int) pb pc ys = true) := Lib.hid (by
      have := checkD_proof ls j (by rw [HN.out]; exact hjn) (by rw [HN.out]; omega)
      rw [HN.out, hpb, hpc, hys] at this
      exact this)
    have HK3 : Hid (checkD (i : Int) (n : Int) pa pc zs = true) := Lib.hid (by
      have := checkD_proof ls i (by rw [HN.out]; omega) (by rw [HN.out]; omega)
      rw [HN.out, hpa, hpc, hzs] at this
      exact this)
    rw [hxs] at HC1
    rw [hys] at HC2
    rw [hzs] at HC3
    obtain ⟨VA, hVA, hza, hoa, hia⟩ := hash_ok pa hpa32
    obtain ⟨VB, hVB, hzb, hob, hib⟩ := hash_ok pb hpb32
    obtain ⟨VC, hVC, hzc, hoc, hic⟩ := hash_ok pc hpc32
    have HRC1 : Hid (∀ W, Below w.heap.size w W → Calls Tryd.prog 15 #[.slice A i c] W fun e w' => e = .returned (.agg VA) ∧ Below W.heap.size W w') := Lib.hid fun W hW => by
      have := root_any A i c (ls.take i) W li (by omega) ((HP.out.next hW).fore (by rw [HN.out]; omega)) (fun l hl => HBT.out l (List.mem_of_mem_take hl)) (fun l hl => H60b.out l (List.mem_of_mem_take hl)) (HT.out.next hW)
      unfold HashTo at this
      rw [hpa, hVA] at this
      exact this
    have HRC2 : Hid (∀ W, Below w.heap.size w W → Calls Tryd.prog 15 #[.slice A j c] W fun e w' => e = .returned (.agg VB) ∧ Below W.heap.size W w') := Lib.hid fun W hW => by
      have := root_any A j c (ls.take j) W lj (by omega) ((HP.out.next hW).fore (by rw [HN.out]; omega)) (fun l hl => HBT.out l (List.mem_of_mem_take hl)) (fun l hl => H60b.out l (List.mem_of_mem_take hl)) (HT.out.next hW)
      unfold HashTo at this
      rw [hpb, hVB] at this
      exact this
    have HRC3 : Hid (∀ W, Below w.heap.size w W → Calls Tryd.prog 15 #[.slice A n c] W fun e w' => e = .returned (.agg VC) ∧ Below W.heap.size W w') := Lib.hid fun W hW => by
      have := root_any A n c ls W HN.out (by omega) (HP.out.next hW) HBT.out H60b.out (HT.out.next hW)
      unfold HashTo at this
      rw [hpc, hVC] at this
      exact this
    have HVA := Lib.hid hVA; have HZA := Lib.hid hza; have HOA := Lib.hid hoa; have HIA := Lib.hid hia
    have HVB := Lib.hid hVB; have HZB := Lib.hid hzb; have HOB := Lib.hid hob; have HIB := Lib.hid hib
    have HVC := Lib.hid hVC; have HZC := Lib.hid hzc; have HOC := Lib.hid hoc; have HIC := Lib.hid hic
    have HSA := Lib.hid (hash_size pa hpa32); have HSB := Lib.hid (hash_size pb hpb32); have HSC := Lib.hid (hash_size pc hpc32)
    have HA32 := Lib.hid hpa32; have HB32 := Lib.hid hpb32; have HC32 := Lib.hid hpc32; have HAB := Lib.hid hpaB; have HBB := Lib.hid hpbB
    have hz := (zero_of_info info_hash).1
    obtain ⟨Z32, hZ32⟩ : ∃ Z32 : Array Value, Array.replicate 32 (.int .u8 0) = Z32 := ⟨_, rfl⟩
    rw [hZ32] at hz
    have HZZ : Hid (Z32.size = 32) := Lib.hid (by rw [← hZ32]; simp)
    clear lj li tt len6 hxs hys hzs hpa hpb hpc hpa32 hpb32 hpc32 hpaB hpbB hVA hza hoa hia hVB hzb hob hib hVC hzc hoc hic hZ32 hj hi
    go_wp2_with fail
    refine HC1.out.mono ?_
    rintro _ w1 ⟨v1, rfl, ho1, hb1⟩
    obtain ⟨A1, c1, rfl, hc1, _, _⟩ := own_slice ho1
    have HX1 := Lib.hid (HsAt.of_own ho1)
    have HB1 := Lib.hid hb1; have HCX : Hid (xs.length ≤ c1) := Lib.hid hc1
    clear ho1 hb1 hc1
    go_wp2_with fail
    refine (HC2.out _ HB1.out).mono ?_
    rintro _ w2 ⟨v2, rfl, ho2, hb2⟩
    obtain ⟨A2, c2, rfl, hc2, _, _⟩ := own_slice ho2
    have HY2 := Lib.hid (HsAt.of_own ho2)
    have HX2 := Lib.hid (HX1.out.next hb2)
    have HB2 := Lib.hid (HB1.out.trans (hb2.mono HB1.out.size)); have HCY : Hid (ys.length ≤ c2) := Lib.hid hc2
    clear ho2 hb2 hc2
    go_wp2_with fail
    refine (HC3.out _ HB2.out).mono ?_
    rintro _ W0 ⟨v3, rfl, ho3, hb3⟩
    obtain ⟨A3, c3, rfl, hc3, _, _⟩ := own_slice ho3
    have HZ3 := Lib.hid (HsAt.of_own ho3)
    have HX3 := Lib.hid (HX2.out.next hb3)
    have HY3 := Lib.hid (HY2.out.next hb3)
    have HB3 := Lib.hid (HB2.out.trans (hb3.mono HB2.out.size)); have HCZ : Hid (zs.length ≤ c3) := Lib.hid hc3
    clear ho3 hb3 hc3
    go_upto_region 8 with fail
    go_cut [15, 16, 17] (fun s15 s16 s17 wx => ∃ g15 g16 g17 Y, s15 = .pointer (some ⟨g15, 0, none⟩) ∧ s16 = .pointer (some ⟨g16, 0, none⟩) ∧ s17 = .pointer (some ⟨g17, 0, none⟩) ∧ Y = wx ∧ Below W0.heap.size W0 Y ∧ Blk Y g15 33 VA ∧ Blk Y g16 33 VB ∧ Blk Y g17 33 VC)
    case first =>
      have RC1 : Hid (∀ {W}, Below W0.heap.size W0 W → Calls Tryd.prog 15 #[.slice A i c] W fun e w' => e = .returned (.agg VA) ∧ Below W.heap.size W w') := Lib.hid fun hW => HRC1.out _ (HB3.out.trans (hW.mono HB3.out.size))
      have RC2 : Hid (∀ {W}, Below W0.heap.size W0 W → Calls Tryd.prog 15 #[.slice A j c] W fun e w' => e = .returned (.agg VB) ∧ Below W.heap.size W w') := Lib.hid fun hW => HRC2.out _ (HB3.out.trans (hW.mono HB3.out.size))
      have RC3 : Hid (∀ {W}, Below W0.heap.size W0 W → Calls Tryd.prog 15 #[.slice A n c] W fun e w' => e = .returned (.agg VC) ∧ Below W.heap.size W w') := Lib.hid fun hW => HRC3.out _ (HB3.out.trans (hW.mono HB3.out.size))
      refine wp_region_noPanic ?_
      refine wp_region_held_drew (S := fun w' => True) (by kernel_rfl) trivial (fun hHeld => ?_)
      change wpAnyH _ _ _ _ _ 16 #[false, false, false, false, false, false, false, false, false, false, false, false, false, false, false, false] _ _
      have HBD := Lib.hid (Below.drew (Below.refl W0.heap.size W0))
      refine wpAnyH_take (i := 0) (oi := { dst := some 50, op := Go.Op.move (Go.Operand.tmp 0), type := 22, pos := "law.go:93", after := #[], guard := none }) (v := ?_) rfl (by kernel_rfl) (by kernel_rfl) (by kernel_rfl) (fun _ _ _ => np) (Or.inl ⟨by rfl, ?_⟩) (by assumption) ?_
      rotate_left
      · (intro _ hSw; (try dsimp only at hSw); clear hSw; go_simp; try with_reducible rfl)
      try simp only [Act.put, List.setIfInBounds_toArray, List.set_cons_zero, List.set_cons_succ]
      refine wpAnyH_take (i := 1) (oi := { dst := some 51, op := Go.Op.move (Go.Operand.tmp 8), type := 3, pos := "law.go:93", after := #[], guard := none }) (v := ?_) rfl (by kernel_rfl) (by kernel_rfl) (by kernel_rfl) (fun _ _ _ => np) (Or.inl ⟨by rfl, ?_⟩) (by assumption) ?_
      rotate_left
      · (intro _ hSw; (try dsimp only at hSw); clear hSw; go_simp; try with_reducible rfl)
      try simp only [Act.put, List.setIfInBounds_toArray, List.set_cons_zero, List.set_cons_succ]
      refine wpAnyH_take (i := 2) (oi := { dst := some 52, op := Go.Op.slice 22 (Go.Operand.tmp 50) none (some (Go.Operand.tmp 51)) none, type := 22, pos := "law.go:93", after := #[{ on := 0, ground := Go.Ground.data }, { on := 1, ground := Go.Ground.data }], guard := none }) (v := ?_) rfl (by kernel_rfl) (by kernel_rfl) (by kernel_rfl) (fun _ _ _ => np) (Or.inl ⟨by rfl, ?_⟩) (by assumption) ?_
      rotate_left
      · (intro _ hSw; (try dsimp only at hSw); clear hSw; go_simp; try with_reducible rfl)
      try simp only [Act.put, List.setIfInBounds_toArray, List.set_cons_zero, List.set_cons_succ]
      refine wpAnyH_take (i := 4) (oi := { dst := some 54, op := Go.Op.move (Go.Operand.tmp 0), type := 22, pos := "law.go:93", after := #[], guard := none }) (v := ?_) rfl (by kernel_rfl) (by kernel_rfl) (by kernel_rfl) (fun _ _ _ => np) (Or.inl ⟨by rfl, ?_⟩) (by assumption) ?_
      rotate_left
      · (intro _ hSw; (try dsimp only at hSw); clear hSw; go_simp; try with_reducible rfl)
      try simp only [Act.put, List.setIfInBounds_toArray, List.set_cons_zero, List.set_cons_succ]
      refine wpAnyH_take (i := 5) (oi := { dst := some 55, op := Go.Op.move (Go.Operand.tmp 7), type := 3, pos := "law.go:93", after := #[], guard := none }) (v := ?_) rfl (by kernel_rfl) (by kernel_rfl) (by kernel_rfl) (fun _ _ _ => np) (Or.inl ⟨by rfl, ?_⟩) (by assumption) ?_
      rotate_left
      · (intro _ hSw; (try dsimp only at hSw); clear hSw; go_simp; try with_reducible rfl)
      try simp only [Act.put, List.setIfInBounds_toArray, List.set_cons_zero, List.set_cons_succ]
      refine wpAnyH_take (i := 6) (oi := { dst := some 56, op := Go.Op.slice 22 (Go.Operand.tmp 54) none (some (Go.Operand.tmp 55)) none, type := 22, pos := "law.go:93", after := #[{ on := 4, ground := Go.Ground.data }, { on := 5, ground := Go.Ground.data }], guard := none }) (v := ?_) rfl (by kernel_rfl) (by kernel_rfl) (by kernel_rfl) (fun _ _ _ => np) (Or.inl ⟨by rfl, ?_⟩) (by assumption) ?_
      rotate_left
      · (intro _ hSw; (try dsimp only at hSw); clear hSw; go_simp; try with_reducible rfl)
      try simp only [Act.put, List.setIfInBounds_toArray, List.set_cons_zero, List.set_cons_succ]
      refine wpAnyH_take (i := 8) (oi := { dst := some 58, op := Go.Op.move (Go.Operand.tmp 0), type := 22, pos := "law.go:93", after := #[], guard := none }) (v := ?_) rfl (by kernel_rfl) (by kernel_rfl) (by kernel_rfl) (fun _ _ _ => np) (Or.inl ⟨by rfl, ?_⟩) (by assumption) ?_
      rotate_left
      · (intro _ hSw; (try dsimp only at hSw); clear hSw; go_simp; try with_reducible rfl)
      try simp only [Act.put, List.setIfInBounds_toArray, List.set_cons_zero, List.set_cons_succ]
      refine with_states ?_
      intro R a0 hR ha0
      have HR := Lib.hid hR; have HA0 := Lib.hid ha0
      clear hR ha0
      have st3_111 : Hid (∀ (W : World) (g15 g16 g17 : Nat), Below W0.heap.size W0 W → W0.heap.size ≤ g15 → Blk W g15 33 Z32 → W0.heap.size ≤ g16 → Blk W g16 33 Z32 → W0.heap.size ≤ g17 → Blk W g17 33 Z32 → g15 ≠ g16 → g15 ≠ g17 → g16 ≠ g17 → R 3 #[true, true, true, true, true, true, true, true, true, true, true, true, true, false, false, false] ((((((a0.put (some 53) (.agg VA)).put (some 57) (.agg VB)).put (some 59) (.agg VC)).put (some 15) (.pointer (some ⟨g15, 0, none⟩))).put (some 16) (.pointer (some ⟨g16, 0, none⟩))).put (some 17) (.pointer (some ⟨g17, 0, none⟩))) W) := Lib.hid (by
        intro W g15 g16 g17 hb l0 k0 l1 k1 l2 k2 d01 d02 d12
        rw [← HR.out, ← HA0.out]
        try simp only [Act.put, List.setIfInBounds_toArray, List.set_cons_zero, List.set_cons_succ]
        have s0 := run_storeCells_row (P := Tryd.prog) k0 (cs' := VA) HIA.out (by rw [HZA.out, HZZ.out]) HOA.out
        refine wpAnyH_ready (rs := [13]) (by kernel_rfl) (by simp) ?_
        refine AllReadyH.cons rfl (fun K hK => ?_) AllReadyH.nil
        have hva := HZA.out
        go_simp
        refine hK.out _ _ trivial (fun hHeld => ?_)
        clear hK K hva s0
        try simp only [Act.put, List.setIfInBounds_toArray, List.set_cons_zero, List.set_cons_succ]
        have k0a := k0.row VA
        have k1a := k1.rowFar (show g16 ≠ g15 from fun h => d01 h.symm) VA
        have k2a := k2.rowFar (show g17 ≠ g15 from fun h => d02 h.symm) VA
        have ba := Below.row hb l0 VA
        obtain ⟨WA, hWA⟩ : ∃ WA, W.setRow g15 VA = WA := ⟨_, rfl⟩
        rw [hWA] at k0a k1a k2a ba ⊢
        clear hWA k0 k1 k2 hb
        have s1 := run_storeCells_row (P := Tryd.prog) k1a (cs' := VB) HIB.out (by rw [HZB.out, HZZ.out]) HOB.out
        refine wpAnyH_ready (rs := [14]) (by kernel_rfl) (by simp) ?_
        refine AllReadyH.cons rfl (fun K hK => ?_) AllReadyH.nil
        have hvb := HZB.out
        go_simp
        refine hK.out _ _ trivial (fun hHeld => ?_)
        clear hK K hvb s1
        try simp only [Act.put, List.setIfInBounds_toArray, List.set_cons_zero, List.set_cons_succ]
        have k1b := k1a.row VB
        have k0b := k0a.rowFar (show g15 ≠ g16 from d01) VB
        have k2b := k2a.rowFar (show g17 ≠ g16 from fun h => d12 h.symm) VB
        have bb := Below.row ba l1 VB
        obtain ⟨WB, hWB⟩ : ∃ WB, WA.setRow g16 VB = WB := ⟨_, rfl⟩
        rw [hWB] at k0b k1b k2b bb ⊢
        clear hWB k0a k1a k2a ba
        have s2 := run_storeCells_row (P := Tryd.prog) k2b (cs' := VC) HIC.out (by rw [HZC.out, HZZ.out]) HOC.out
        refine wpAnyH_ready (rs := [15]) (by kernel_rfl) (by simp) ?_
        refine AllReadyH.cons rfl (fun K hK => ?_) AllReadyH.nil
        have hvc := HZC.out
        go_simp
        refine hK.out _ _ trivial (fun hHeld => ?_)
        clear hK K hvc s2
        try simp only [Act.put, List.setIfInBounds_toArray, List.set_cons_zero, List.set_cons_succ]
        refine wpAnyH_done (by kernel_rfl) ?_ _
        refine NoPanic.normal ?_
        go_wp2_with fail
        go_meet
        exact ⟨g15, g16, g17, _, rfl, rfl, rfl, rfl, Below.row bb l2 VC, k0b.rowFar (show g15 ≠ g17 from d02) VC, k1b.rowFar (show g16 ≠ g17 from d12) VC, k2b.row VC⟩)
      have st3_011 : Hid (∀ (W : World) (g16 g17 : Nat), Below W0.heap.size W0 W → W0.heap.size ≤ g16 → Blk W g16 33 Z32 → W0.heap.size ≤ g17 → Blk W g17 33 Z32 → g16 ≠ g17 → R 4 #[true, true, true, true, true, true, true, true, true, true, false, true, true, false, false, false] (((((a0.put (some 53) (.agg VA)).put (some 57) (.agg VB)).put (some 59) (.agg VC)).put (some 16) (.pointer (some ⟨g16, 0, none⟩))).put (some 17) (.pointer (some ⟨g17, 0, none⟩))) W) := Lib.hid (by
        intro W g16 g17 hb l1 k1 l2 k2 d12
        rw [← HR.out, ← HA0.out]
        try simp only [Act.put, List.setIfInBounds_toArray, List.set_cons_zero, List.set_cons_succ]
        refine wpAnyH_ready (rs := [10]) (by kernel_rfl) (by simp) ?_
        refine AllReadyH.cons (o := { dst := some 15, op := Go.Op.alloc 33, type := 0, pos := "law.go:93", after := #[], guard := none }) rfl (fun K hK => ?_) AllReadyH.nil
        · go_simp
          refine hK.out _ _ trivial (fun hHeld => ?_)
          clear hK K
          try simp only [Act.put, List.setIfInBounds_toArray, List.set_cons_zero, List.set_cons_succ]
          have hn := st3_111.out (W.alloc (.cells Z32 33)) W.heap.size g16 g17 (hb.alloc hb.size _) hb.size (Blk.new W _ _) l1 (k1.alloc _) l2 (k2.alloc _) (Nat.ne_of_gt k1.lt) (Nat.ne_of_gt k2.lt) d12
          rw [← HR.out, ← HA0.out] at hn
          simp only [Act.put, List.setIfInBounds_toArray, List.set_cons_zero, List.set_cons_succ] at hn
          exact hn)
      have st3_101 : Hid (∀ (W : World) (g15 g17 : Nat), Below W0.heap.size W0 W → W0.heap.size ≤ g15 → Blk W g15 33 Z32 → W0.heap.size ≤ g17 → Blk W g17 33 Z32 → g15 ≠ g17 → R 4 #[true, true, true, true, true, true, true, true, true, true, true, false, true, false, false, false] (((((a0.put (some 53) (.agg VA)).put (some 57) (.agg VB)).put (some 59) (.agg VC)).put (some 15) (.pointer (some ⟨g15, 0, none⟩))).put (some 17) (.pointer (some ⟨g17, 0, none⟩))) W) := Lib.hid (by
        intro W g15 g17 hb l0 k0 l2 k2 d02
        rw [← HR.out, ← HA0.out]
        try simp only [Act.put, List.setIfInBounds_toArray, List.set_cons_zero, List.set_cons_succ]
        refine wpAnyH_ready (rs := [11]) (by kernel_rfl) (by simp) ?_
        refine AllReadyH.cons (o := { dst := some 16, op := Go.Op.alloc 33, type := 0, pos := "law.go:93", after := #[], guard := none }) rfl (fun K hK => ?_) AllReadyH.nil
        · go_simp
          refine hK.out _ _ trivial (fun hHeld => ?_)
          clear hK K
          try simp only [Act.put, List.setIfInBounds_toArray, List.set_cons_zero, List.set_cons_succ]
          have hn := st3_111.out (W.alloc (.cells Z32 33)) g15 W.heap.size g17 (hb.alloc hb.size _) l0 (k0.alloc _) hb.size (Blk.new W _ _) l2 (k2.alloc _) (Nat.ne_of_lt k0.lt) d02 (Nat.ne_of_gt k2.lt)
          rw [← HR.out, ← HA0.out] at hn
          simp only [Act.put, List.setIfInBounds_toArray, List.set_cons_zero, List.set_cons_succ] at hn
          exact hn)
      have st3_110 : Hid (∀ (W : World) (g15 g16 : Nat), Below W0.heap.size W0 W → W0.heap.size ≤ g15 → Blk W g15 33 Z32 → W0.heap.size ≤ g16 → Blk W g16 33 Z32 → g15 ≠ g16 → R 4 #[true, true, true, true, true, true, true, true, true, true, true, true, false, false, false, false] (((((a0.put (some 53) (.agg VA)).put (some 57) (.agg VB)).put (some 59) (.agg VC)).put (some 15) (.pointer (some ⟨g15, 0, none⟩))).put (some 16) (.pointer (some ⟨g16, 0, none⟩))) W) := Lib.hid (by
        intro W g15 g16 hb l0 k0 l1 k1 d01
        rw [← HR.out, ← HA0.out]
        try simp only [Act.put, List.setIfInBounds_toArray, List.set_cons_zero, List.set_cons_succ]
        refine wpAnyH_ready (rs := [12]) (by kernel_rfl) (by simp) ?_
        refine AllReadyH.cons (o := { dst := some 17, op := Go.Op.alloc 33, type := 0, pos := "law.go:93", after := #[], guard := none }) rfl (fun K hK => ?_) AllReadyH.nil
        · go_simp
          refine hK.out _ _ trivial (fun hHeld => ?_)
          clear hK K
          try simp only [Act.put, List.setIfInBounds_toArray, List.set_cons_zero, List.set_cons_succ]
          have hn := st3_111.out (W.alloc (.cells Z32 33)) g15 g16 W.heap.size (hb.alloc hb.size _) l0 (k0.alloc _) l1 (k1.alloc _) hb.size (Blk.new W _ _) d01 (Nat.ne_of_lt k0.lt) (Nat.ne_of_lt k1.lt)
          rw [← HR.out, ← HA0.out] at hn
          simp only [Act.put, List.setIfInBounds_toArray, List.set_cons_zero, List.set_cons_succ] at hn
          exact hn)
      have st2_111 : Hid (∀ (W : World) (g15 g16 g17 : Nat), Below W0.heap.size W0 W → W0.heap.size ≤ g15 → Blk W g15 33 Z32 → W0.heap.size ≤ g16 → Blk W g16 33 Z32 → W0.heap.size ≤ g17 → Blk W g17 33 Z32 → g15 ≠ g16 → g15 ≠ g17 → g16 ≠ g17 → R 4 #[true, true, true, true, true, true, true, true, true, false, true, true, true, false, false, false] (((((a0.put (some 53) (.agg VA)).put (some 57) (.agg VB)).put (some 15) (.pointer (some ⟨g15, 0, none⟩))).put (some 16) (.pointer (some ⟨g16, 0, none⟩))).put (some 17) (.pointer (some ⟨g17, 0, none⟩))) W) := Lib.hid (by
        intro W g15 g16 g17 hb l0 k0 l1 k1 l2 k2 d01 d02 d12
        rw [← HR.out, ← HA0.out]
        try simp only [Act.put, List.setIfInBounds_toArray, List.set_cons_zero, List.set_cons_succ]
        refine wpAnyH_ready (rs := [9]) (by kernel_rfl) (by simp) ?_
        refine AllReadyH.cons (o := { dst := some 59, op := Go.Op.call { callee := Go.Callee.value (Go.Operand.func 15), args := #[Go.Operand.tmp 58], argTypes := #[22] }, type := 33, pos := "law.go:93", after := #[{ on := 8, ground := Go.Ground.data }, { on := 7, ground := Go.Ground.chain }], guard := none }) rfl (fun K hK => ?_) AllReadyH.nil
        · go_simp
          go_at_call 15
          refine (RC3.out hb).mono ?_
          rintro _ w6 ⟨rfl, hb6⟩
          go_wp2_with fail
          refine hK.out _ _ trivial (fun hHeld => ?_)
          clear hK K
          try simp only [Act.put, List.setIfInBounds_toArray, List.set_cons_zero, List.set_cons_succ]
          have hn := st3_111.out w6 g15 g16 g17 (hb.trans (hb6.mono hb.size)) l0 (k0.below hb6 k0.lt) l1 (k1.below hb6 k1.lt) l2 (k2.below hb6 k2.lt) d01 d02 d12
          rw [← HR.out, ← HA0.out] at hn
          simp only [Act.put, List.setIfInBounds_toArray, List.set_cons_zero, List.set_cons_succ] at hn
          exact hn)
      have st3_001 : Hid (∀ (W : World) (g17 : Nat), Below W0.heap.size W0 W → W0.heap.size ≤ g17 → Blk W g17 33 Z32 → R 5 #[true, true, true, true, true, true, true, true, true, true, false, false, true, false, false, false] ((((a0.put (some 53) (.agg VA)).put (some 57) (.agg VB)).put (some 59) (.agg VC)).put (some 17) (.pointer (some ⟨g17, 0, none⟩))) W) := Lib.hid (by
        intro W g17 hb l2 k2
        rw [← HR.out, ← HA0.out]
        try simp only [Act.put, List.setIfInBounds_toArray, List.set_cons_zero, List.set_cons_succ]
        refine wpAnyH_ready (rs := [10, 11]) (by kernel_rfl) (by simp) ?_
        refine AllReadyH.cons (o := { dst := some 15, op := Go.Op.alloc 33, type := 0, pos := "law.go:93", after := #[], guard := none }) rfl (fun K hK => ?_) (AllReadyH.cons (o := { dst := some 16, op := Go.Op.alloc 33, type := 0, pos := "law.go:93", after := #[], guard := none }) rfl (fun K hK => ?_) AllReadyH.nil)
        · go_simp
          refine hK.out _ _ trivial (fun hHeld => ?_)
          clear hK K
          try simp only [Act.put, List.setIfInBounds_toArray, List.set_cons_zero, List.set_cons_succ]
          have hn := st3_101.out (W.alloc (.cells Z32 33)) W.heap.size g17 (hb.alloc hb.size _) hb.size (Blk.new W _ _) l2 (k2.alloc _) (Nat.ne_of_gt k2.lt)
          rw [← HR.out, ← HA0.out] at hn
          simp only [Act.put, List.setIfInBounds_toArray, List.set_cons_zero, List.set_cons_succ] at hn
          exact hn
        · go_simp
          refine hK.out _ _ trivial (fun hHeld => ?_)
          clear hK K
          try simp only [Act.put, List.setIfInBounds_toArray, List.set_cons_zero, List.set_cons_succ]
          have hn := st3_011.out (W.alloc (.cells Z32 33)) W.heap.size g17 (hb.alloc hb.size _) hb.size (Blk.new W _ _) l2 (k2.alloc _) (Nat.ne_of_gt k2.lt)
          rw [← HR.out, ← HA0.out] at hn
          simp only [Act.put, List.setIfInBounds_toArray, List.set_cons_zero, List.set_cons_succ] at hn
          exact hn)
      have st3_010 : Hid (∀ (W : World) (g16 : Nat), Below W0.heap.size W0 W → W0.heap.size ≤ g16 → Blk W g16 33 Z32 → R 5 #[true, true, true, true, true, true, true, true, true, true, false, true, false, false, false, false] ((((a0.put (some 53) (.agg VA)).put (some 57) (.agg VB)).put (some 59) (.agg VC)).put (some 16) (.pointer (some ⟨g16, 0, none⟩))) W) := Lib.hid (by
        intro W g16 hb l1 k1
        rw [← HR.out, ← HA0.out]
        try simp only [Act.put, List.setIfInBounds_toArray, List.set_cons_zero, List.set_cons_succ]
        refine wpAnyH_ready (rs := [10, 12]) (by kernel_rfl) (by simp) ?_
        refine AllReadyH.cons (o := { dst := some 15, op := Go.Op.alloc 33, type := 0, pos := "law.go:93", after := #[], guard := none }) rfl (fun K hK => ?_) (AllReadyH.cons (o := { dst := some 17, op := Go.Op.alloc 33, type := 0, pos := "law.go:93", after := #[], guard := none }) rfl (fun K hK => ?_) AllReadyH.nil)
        · go_simp
          refine hK.out _ _ trivial (fun hHeld => ?_)
          clear hK K
          try simp only [Act.put, List.setIfInBounds_toArray, List.set_cons_zero, List.set_cons_succ]
          have hn := st3_110.out (W.alloc (.cells Z32 33)) W.heap.size g16 (hb.alloc hb.size _) hb.size (Blk.new W _ _) l1 (k1.alloc _) (Nat.ne_of_gt k1.lt)
          rw [← HR.out, ← HA0.out] at hn
          simp only [Act.put, List.setIfInBounds_toArray, List.set_cons_zero, List.set_cons_succ] at hn
          exact hn
        · go_simp
          refine hK.out _ _ trivial (fun hHeld => ?_)
          clear hK K
          try simp only [Act.put, List.setIfInBounds_toArray, List.set_cons_zero, List.set_cons_succ]
          have hn := st3_011.out (W.alloc (.cells Z32 33)) g16 W.heap.size (hb.alloc hb.size _) l1 (k1.alloc _) hb.size (Blk.new W _ _) (Nat.ne_of_lt k1.lt)
          rw [← HR.out, ← HA0.out] at hn
          simp only [Act.put, List.setIfInBounds_toArray, List.set_cons_zero, List.set_cons_succ] at hn
          exact hn)
      have st3_100 : Hid (∀ (W : World) (g15 : Nat), Below W0.heap.size W0 W → W0.heap.size ≤ g15 → Blk W g15 33 Z32 → R 5 #[true, true, true, true, true, true, true, true, true, true, true, false, false, false, false, false] ((((a0.put (some 53) (.agg VA)).put (some 57) (.agg VB)).put (some 59) (.agg VC)).put (some 15) (.pointer (some ⟨g15, 0, none⟩))) W) := Lib.hid (by
        intro W g15 hb l0 k0
        rw [← HR.out, ← HA0.out]
        try simp only [Act.put, List.setIfInBounds_toArray, List.set_cons_zero, List.set_cons_succ]
        refine wpAnyH_ready (rs := [11, 12]) (by kernel_rfl) (by simp) ?_
        refine AllReadyH.cons (o := { dst := some 16, op := Go.Op.alloc 33, type := 0, pos := "law.go:93", after := #[], guard := none }) rfl (fun K hK => ?_) (AllReadyH.cons (o := { dst := some 17, op := Go.Op.alloc 33, type := 0, pos := "law.go:93", after := #[], guard := none }) rfl (fun K hK => ?_) AllReadyH.nil)
        · go_simp
          refine hK.out _ _ trivial (fun hHeld => ?_)
          clear hK K
          try simp only [Act.put, List.setIfInBounds_toArray, List.set_cons_zero, List.set_cons_succ]
          have hn := st3_110.out (W.alloc (.cells Z32 33)) g15 W.heap.size (hb.alloc hb.size _) l0 (k0.alloc _) hb.size (Blk.new W _ _) (Nat.ne_of_lt k0.lt)
          rw [← HR.out, ← HA0.out] at hn
          simp only [Act.put, List.setIfInBounds_toArray, List.set_cons_zero, List.set_cons_succ] at hn
          exact hn
        · go_simp
          refine hK.out _ _ trivial (fun hHeld => ?_)
          clear hK K
          try simp only [Act.put, List.setIfInBounds_toArray, List.set_cons_zero, List.set_cons_succ]
          have hn := st3_101.out (W.alloc (.cells Z32 33)) g15 W.heap.size (hb.alloc hb.size _) l0 (k0.alloc _) hb.size (Blk.new W _ _) (Nat.ne_of_lt k0.lt)
          rw [← HR.out, ← HA0.out] at hn
          simp only [Act.put, List.setIfInBounds_toArray, List.set_cons_zero, List.set_cons_succ] at hn
          exact hn)
      have st2_011 : Hid (∀ (W : World) (g16 g17 : Nat), Below W0.heap.size W0 W → W0.heap.size ≤ g16 → Blk W g16 33 Z32 → W0.heap.size ≤ g17 → Blk W g17 33 Z32 → g16 ≠ g17 → R 5 #[true, true, true, true, true, true, true, true, true, false, false, true, true, false, false, false] ((((a0.put (some 53) (.agg VA)).put (some 57) (.agg VB)).put (some 16) (.pointer (some ⟨g16, 0, none⟩))).put (some 17) (.pointer (some ⟨g17, 0, none⟩))) W) := Lib.hid (by
        intro W g16 g17 hb l1 k1 l2 k2 d12
        rw [← HR.out, ← HA0.out]
        try simp only [Act.put, List.setIfInBounds_toArray, List.set_cons_zero, List.set_cons_succ]
        refine wpAnyH_ready (rs := [9, 10]) (by kernel_rfl) (by simp) ?_
        refine AllReadyH.cons (o := { dst := some 59, op := Go.Op.call { callee := Go.Callee.value (Go.Operand.func 15), args := #[Go.Operand.tmp 58], argTypes := #[22] }, type := 33, pos := "law.go:93", after := #[{ on := 8, ground := Go.Ground.data }, { on := 7, ground := Go.Ground.chain }], guard := none }) rfl (fun K hK => ?_) (AllReadyH.cons (o := { dst := some 15, op := Go.Op.alloc 33, type := 0, pos := "law.go:93", after := #[], guard := none }) rfl (fun K hK => ?_) AllReadyH.nil)
        · go_simp
          go_at_call 15
          refine (RC3.out hb).mono ?_
          rintro _ w6 ⟨rfl, hb6⟩
          go_wp2_with fail
          refine hK.out _ _ trivial (fun hHeld => ?_)
          clear hK K
          try simp only [Act.put, List.setIfInBounds_toArray, List.set_cons_zero, List.set_cons_succ]
          have hn := st3_011.out w6 g16 g17 (hb.trans (hb6.mono hb.size)) l1 (k1.below hb6 k1.lt) l2 (k2.below hb6 k2.lt) d12
          rw [← HR.out, ← HA0.out] at hn
          simp only [Act.put, List.setIfInBounds_toArray, List.set_cons_zero, List.set_cons_succ] at hn
          exact hn
        · go_simp
          refine hK.out _ _ trivial (fun hHeld => ?_)
          clear hK K
          try simp only [Act.put, List.setIfInBounds_toArray, List.set_cons_zero, List.set_cons_succ]
          have hn := st2_111.out (W.alloc (.cells Z32 33)) W.heap.size g16 g17 (hb.alloc hb.size _) hb.size (Blk.new W _ _) l1 (k1.alloc _) l2 (k2.alloc _) (Nat.ne_of_gt k1.lt) (Nat.ne_of_gt k2.lt) d12
          rw [← HR.out, ← HA0.out] at hn
          simp only [Act.put, List.setIfInBounds_toArray, List.set_cons_zero, List.set_cons_succ] at hn
          exact hn)
      have st2_101 : Hid (∀ (W : World) (g15 g17 : Nat), Below W0.heap.size W0 W → W0.heap.size ≤ g15 → Blk W g15 33 Z32 → W0.heap.size ≤ g17 → Blk W g17 33 Z32 → g15 ≠ g17 → R 5 #[true, true, true, true, true, true, true, true, true, false, true, false, true, false, false, false] ((((a0.put (some 53) (.agg VA)).put (some 57) (.agg VB)).put (some 15) (.pointer (some ⟨g15, 0, none⟩))).put (some 17) (.pointer (some ⟨g17, 0, none⟩))) W) := Lib.hid (by
        intro W g15 g17 hb l0 k0 l2 k2 d02
        rw [← HR.out, ← HA0.out]
        try simp only [Act.put, List.setIfInBounds_toArray, List.set_cons_zero, List.set_cons_succ]
        refine wpAnyH_ready (rs := [9, 11]) (by kernel_rfl) (by simp) ?_
        refine AllReadyH.cons (o := { dst := some 59, op := Go.Op.call { callee := Go.Callee.value (Go.Operand.func 15), args := #[Go.Operand.tmp 58], argTypes := #[22] }, type := 33, pos := "law.go:93", after := #[{ on := 8, ground := Go.Ground.data }, { on := 7, ground := Go.Ground.chain }], guard := none }) rfl (fun K hK => ?_) (AllReadyH.cons (o := { dst := some 16, op := Go.Op.alloc 33, type := 0, pos := "law.go:93", after := #[], guard := none }) rfl (fun K hK => ?_) AllReadyH.nil)
        · go_simp
          go_at_call 15
          refine (RC3.out hb).mono ?_
          rintro _ w6 ⟨rfl, hb6⟩
          go_wp2_with fail
          refine hK.out _ _ trivial (fun hHeld => ?_)
          clear hK K
          try simp only [Act.put, List.setIfInBounds_toArray, List.set_cons_zero, List.set_cons_succ]
          have hn := st3_101.out w6 g15 g17 (hb.trans (hb6.mono hb.size)) l0 (k0.below hb6 k0.lt) l2 (k2.below hb6 k2.lt) d02
          rw [← HR.out, ← HA0.out] at hn
          simp only [Act.put, List.setIfInBounds_toArray, List.set_cons_zero, List.set_cons_succ] at hn
          exact hn
        · go_simp
          refine hK.out _ _ trivial (fun hHeld => ?_)
          clear hK K
          try simp only [Act.put, List.setIfInBounds_toArray, List.set_cons_zero, List.set_cons_succ]
          have hn := st2_111.out (W.alloc (.cells Z32 33)) g15 W.heap.size g17 (hb.alloc hb.size _) l0 (k0.alloc _) hb.size (Blk.new W _ _) l2 (k2.alloc _) (Nat.ne_of_lt k0.lt) d02 (Nat.ne_of_gt k2.lt)
          rw [← HR.out, ← HA0.out] at hn
          simp only [Act.put, List.setIfInBounds_toArray, List.set_cons_zero, List.set_cons_succ] at hn
          exact hn)
      have st2_110 : Hid (∀ (W : World) (g15 g16 : Nat), Below W0.heap.size W0 W → W0.heap.size ≤ g15 → Blk W g15 33 Z32 → W0.heap.size ≤ g16 → Blk W g16 33 Z32 → g15 ≠ g16 → R 5 #[true, true, true, true, true, true, true, true, true, false, true, true, false, false, false, false] ((((a0.put (some 53) (.agg VA)).put (some 57) (.agg VB)).put (some 15) (.pointer (some ⟨g15, 0, none⟩))).put (some 16) (.pointer (some ⟨g16, 0, none⟩))) W) := Lib.hid (by
        intro W g15 g16 hb l0 k0 l1 k1 d01
        rw [← HR.out, ← HA0.out]
        try simp only [Act.put, List.setIfInBounds_toArray, List.set_cons_zero, List.set_cons_succ]
        refine wpAnyH_ready (rs := [9, 12]) (by kernel_rfl) (by simp) ?_
        refine AllReadyH.cons (o := { dst := some 59, op := Go.Op.call { callee := Go.Callee.value (Go.Operand.func 15), args := #[Go.Operand.tmp 58], argTypes := #[22] }, type := 33, pos := "law.go:93", after := #[{ on := 8, ground := Go.Ground.data }, { on := 7, ground := Go.Ground.chain }], guard := none }) rfl (fun K hK => ?_) (AllReadyH.cons (o := { dst := some 17, op := Go.Op.alloc 33, type := 0, pos := "law.go:93", after := #[], guard := none }) rfl (fun K hK => ?_) AllReadyH.nil)
        · go_simp
          go_at_call 15
          refine (RC3.out hb).mono ?_
          rintro _ w6 ⟨rfl, hb6⟩
          go_wp2_with fail
          refine hK.out _ _ trivial (fun hHeld => ?_)
          clear hK K
          try simp only [Act.put, List.setIfInBounds_toArray, List.set_cons_zero, List.set_cons_succ]
          have hn := st3_110.out w6 g15 g16 (hb.trans (hb6.mono hb.size)) l0 (k0.below hb6 k0.lt) l1 (k1.below hb6 k1.lt) d01
          rw [← HR.out, ← HA0.out] at hn
          simp only [Act.put, List.setIfInBounds_toArray, List.set_cons_zero, List.set_cons_succ] at hn
          exact hn
        · go_simp
          refine hK.out _ _ trivial (fun hHeld => ?_)
          clear hK K
          try simp only [Act.put, List.setIfInBounds_toArray, List.set_cons_zero, List.set_cons_succ]
          have hn := st2_111.out (W.alloc (.cells Z32 33)) g15 g16 W.heap.size (hb.alloc hb.size _) l0 (k0.alloc _) l1 (k1.alloc _) hb.size (Blk.new W _ _) d01 (Nat.ne_of_lt k0.lt) (Nat.ne_of_lt k1.lt)
          rw [← HR.out, ← HA0.out] at hn
          simp only [Act.put, List.setIfInBounds_toArray, List.set_cons_zero, List.set_cons_succ] at hn
          exact hn)
      have st1_111 : Hid (∀ (W : World) (g15 g16 g17 : Nat), Below W0.heap.size W0 W → W0.heap.size ≤ g15 → Blk W g15 33 Z32 → W0.heap.size ≤ g16 → Blk W g16 33 Z32 → W0.heap.size ≤ g17 → Blk W g17 33 Z32 → g15 ≠ g16 → g15 ≠ g17 → g16 ≠ g17 → R 5 #[true, true, true, true, true, true, true, false, true, false, true, true, true, false, false, false] ((((a0.put (some 53) (.agg VA)).put (some 15) (.pointer (some ⟨g15, 0, none⟩))).put (some 16) (.pointer (some ⟨g16, 0, none⟩))).put (some 17) (.pointer (some ⟨g17, 0, none⟩))) W) := Lib.hid (by
        intro W g15 g16 g17 hb l0 k0 l1 k1 l2 k2 d01 d02 d12
        rw [← HR.out, ← HA0.out]
        try simp only [Act.put, List.setIfInBounds_toArray, List.set_cons_zero, List.set_cons_succ]
        refine wpAnyH_ready (rs := [7]) (by kernel_rfl) (by simp) ?_
        refine AllReadyH.cons (o := { dst := some 57, op := Go.Op.call { callee := Go.Callee.value (Go.Operand.func 15), args := #[Go.Operand.tmp 56], argTypes := #[22] }, type := 33, pos := "law.go:93", after := #[{ on := 6, ground := Go.Ground.data }, { on := 3, ground := Go.Ground.chain }], guard := none }) rfl (fun K hK => ?_) AllReadyH.nil
        · go_simp
          go_at_call 15
          refine (RC2.out hb).mono ?_
          rintro _ w6 ⟨rfl, hb6⟩
          go_wp2_with fail
          refine hK.out _ _ trivial (fun hHeld => ?_)
          clear hK K
          try simp only [Act.put, List.setIfInBounds_toArray, List.set_cons_zero, List.set_cons_succ]
          have hn := st2_111.out w6 g15 g16 g17 (hb.trans (hb6.mono hb.size)) l0 (k0.below hb6 k0.lt) l1 (k1.below hb6 k1.lt) l2 (k2.below hb6 k2.lt) d01 d02 d12
          rw [← HR.out, ← HA0.out] at hn
          simp only [Act.put, List.setIfInBounds_toArray, List.set_cons_zero, List.set_cons_succ] at hn
          exact hn)
      have st3_000 : Hid (∀ (W : World), Below W0.heap.size W0 W → R 6 #[true, true, true, true, true, true, true, true, true, true, false, false, false, false, false, false] (((a0.put (some 53) (.agg VA)).put (some 57) (.agg VB)).put (some 59) (.agg VC)) W) := Lib.hid (by
        intro W  hb 
        rw [← HR.out, ← HA0.out]
        try simp only [Act.put, List.setIfInBounds_toArray, List.set_cons_zero, List.set_cons_succ]
        refine wpAnyH_ready (rs := [10, 11, 12]) (by kernel_rfl) (by simp) ?_
        refine AllReadyH.cons (o := { dst := some 15, op := Go.Op.alloc 33, type := 0, pos := "law.go:93", after := #[], guard := none }) rfl (fun K hK => ?_) (AllReadyH.cons (o := { dst := some 16, op := Go.Op.alloc 33, type := 0, pos := "law.go:93", after := #[], guard := none }) rfl (fun K hK => ?_) (AllReadyH.cons (o := { dst := some 17, op := Go.Op.alloc 33, type := 0, pos := "law.go:93", after := #[], guard := none }) rfl (fun K hK => ?_) AllReadyH.nil))
        · go_simp
          refine hK.out _ _ trivial (fun hHeld => ?_)
          clear hK K
          try simp only [Act.put, List.setIfInBounds_toArray, List.set_cons_zero, List.set_cons_succ]
          have hn := st3_100.out (W.alloc (.cells Z32 33)) W.heap.size (hb.alloc hb.size _) hb.size (Blk.new W _ _)
          rw [← HR.out, ← HA0.out] at hn
          simp only [Act.put, List.setIfInBounds_toArray, List.set_cons_zero, List.set_cons_succ] at hn
          exact hn
        · go_simp
          refine hK.out _ _ trivial (fun hHeld => ?_)
          clear hK K
          try simp only [Act.put, List.setIfInBounds_toArray, List.set_cons_zero, List.set_cons_succ]
          have hn := st3_010.out (W.alloc (.cells Z32 33)) W.heap.size (hb.alloc hb.size _) hb.size (Blk.new W _ _)
          rw [← HR.out, ← HA0.out] at hn
          simp only [Act.put, List.setIfInBounds_toArray, List.set_cons_zero, List.set_cons_succ] at hn
          exact hn
        · go_simp
          refine hK.out _ _ trivial (fun hHeld => ?_)
          clear hK K
          try simp only [Act.put, List.setIfInBounds_toArray, List.set_cons_zero, List.set_cons_succ]
          have hn := st3_001.out (W.alloc (.cells Z32 33)) W.heap.size (hb.alloc hb.size _) hb.size (Blk.new W _ _)
          rw [← HR.out, ← HA0.out] at hn
          simp only [Act.put, List.setIfInBounds_toArray, List.set_cons_zero, List.set_cons_succ] at hn
          exact hn)
      have st2_001 : Hid (∀ (W : World) (g17 : Nat), Below W0.heap.size W0 W → W0.heap.size ≤ g17 → Blk W g17 33 Z32 → R 6 #[true, true, true, true, true, true, true, true, true, false, false, false, true, false, false, false] (((a0.put (some 53) (.agg VA)).put (some 57) (.agg VB)).put (some 17) (.pointer (some ⟨g17, 0, none⟩))) W) := Lib.hid (by
        intro W g17 hb l2 k2
        rw [← HR.out, ← HA0.out]
        try simp only [Act.put, List.setIfInBounds_toArray, List.set_cons_zero, List.set_cons_succ]
        refine wpAnyH_ready (rs := [9, 10, 11]) (by kernel_rfl) (by simp) ?_
        refine AllReadyH.cons (o := { dst := some 59, op := Go.Op.call { callee := Go.Callee.value (Go.Operand.func 15), args := #[Go.Operand.tmp 58], argTypes := #[22] }, type := 33, pos := "law.go:93", after := #[{ on := 8, ground := Go.Ground.data }, { on := 7, ground := Go.Ground.chain }], guard := none }) rfl (fun K hK => ?_) (AllReadyH.cons (o := { dst := some 15, op := Go.Op.alloc 33, type := 0, pos := "law.go:93", after := #[], guard := none }) rfl (fun K hK => ?_) (AllReadyH.cons (o := { dst := some 16, op := Go.Op.alloc 33, type := 0, pos := "law.go:93", after := #[], guard := none }) rfl (fun K hK => ?_) AllReadyH.nil))
        · go_simp
          go_at_call 15
          refine (RC3.out hb).mono ?_
          rintro _ w6 ⟨rfl, hb6⟩
          go_wp2_with fail
          refine hK.out _ _ trivial (fun hHeld => ?_)
          clear hK K
          try simp only [Act.put, List.setIfInBounds_toArray, List.set_cons_zero, List.set_cons_succ]
          have hn := st3_001.out w6 g17 (hb.trans (hb6.mono hb.size)) l2 (k2.below hb6 k2.lt)
          rw [← HR.out, ← HA0.out] at hn
          simp only [Act.put, List.setIfInBounds_toArray, List.set_cons_zero, List.set_cons_succ] at hn
          exact hn
        · go_simp
          refine hK.out _ _ trivial (fun hHeld => ?_)
          clear hK K
          try simp only [Act.put, List.setIfInBounds_toArray, List.set_cons_zero, List.set_cons_succ]
          have hn := st2_101.out (W.alloc (.cells Z32 33)) W.heap.size g17 (hb.alloc hb.size _) hb.size (Blk.new W _ _) l2 (k2.alloc _) (Nat.ne_of_gt k2.lt)
          rw [← HR.out, ← HA0.out] at hn
          simp only [Act.put, List.setIfInBounds_toArray, List.set_cons_zero, List.set_cons_succ] at hn
          exact hn
        · go_simp
          refine hK.out _ _ trivial (fun hHeld => ?_)
          clear hK K
          try simp only [Act.put, List.setIfInBounds_toArray, List.set_cons_zero, List.set_cons_succ]
          have hn := st2_011.out (W.alloc (.cells Z32 33)) W.heap.size g17 (hb.alloc hb.size _) hb.size (Blk.new W _ _) l2 (k2.alloc _) (Nat.ne_of_gt k2.lt)
          rw [← HR.out, ← HA0.out] at hn
          simp only [Act.put, List.setIfInBounds_toArray, List.set_cons_zero, List.set_cons_succ] at hn
          exact hn)
      have st2_010 : Hid (∀ (W : World) (g16 : Nat), Below W0.heap.size W0 W → W0.heap.size ≤ g16 → Blk W g16 33 Z32 → R 6 #[true, true, true, true, true, true, true, true, true, false, false, true, false, false, false, false] (((a0.put (some 53) (.agg VA)).put (some 57) (.agg VB)).put (some 16) (.pointer (some ⟨g16, 0, none⟩))) W) := Lib.hid (by
        intro W g16 hb l1 k1
        rw [← HR.out, ← HA0.out]
        try simp only [Act.put, List.setIfInBounds_toArray, List.set_cons_zero, List.set_cons_succ]
        refine wpAnyH_ready (rs := [9, 10, 12]) (by kernel_rfl) (by simp) ?_
        refine AllReadyH.cons (o := { dst := some 59, op := Go.Op.call { callee := Go.Callee.value (Go.Operand.func 15), args := #[Go.Operand.tmp 58], argTypes := #[22] }, type := 33, pos := "law.go:93", after := #[{ on := 8, ground := Go.Ground.data }, { on := 7, ground := Go.Ground.chain }], guard := none }) rfl (fun K hK => ?_) (AllReadyH.cons (o := { dst := some 15, op := Go.Op.alloc 33, type := 0, pos := "law.go:93", after := #[], guard := none }) rfl (fun K hK => ?_) (AllReadyH.cons (o := { dst := some 17, op := Go.Op.alloc 33, type := 0, pos := "law.go:93", after := #[], guard := none }) rfl (fun K hK => ?_) AllReadyH.nil))
        · go_simp
          go_at_call 15
          refine (RC3.out hb).mono ?_
          rintro _ w6 ⟨rfl, hb6⟩
          go_wp2_with fail
          refine hK.out _ _ trivial (fun hHeld => ?_)
          clear hK K
          try simp only [Act.put, List.setIfInBounds_toArray, List.set_cons_zero, List.set_cons_succ]
          have hn := st3_010.out w6 g16 (hb.trans (hb6.mono hb.size)) l1 (k1.below hb6 k1.lt)
          rw [← HR.out, ← HA0.out] at hn
          simp only [Act.put, List.setIfInBounds_toArray, List.set_cons_zero, List.set_cons_succ] at hn
          exact hn
        · go_simp
          refine hK.out _ _ trivial (fun hHeld => ?_)
          clear hK K
          try simp only [Act.put, List.setIfInBounds_toArray, List.set_cons_zero, List.set_cons_succ]
          have hn := st2_110.out (W.alloc (.cells Z32 33)) W.heap.size g16 (hb.alloc hb.size _) hb.size (Blk.new W _ _) l1 (k1.alloc _) (Nat.ne_of_gt k1.lt)
          rw [← HR.out, ← HA0.out] at hn
          simp only [Act.put, List.setIfInBounds_toArray, List.set_cons_zero, List.set_cons_succ] at hn
          exact hn
        · go_simp
          refine hK.out _ _ trivial (fun hHeld => ?_)
          clear hK K
          try simp only [Act.put, List.setIfInBounds_toArray, List.set_cons_zero, List.set_cons_succ]
          have hn := st2_011.out (W.alloc (.cells Z32 33)) g16 W.heap.size (hb.alloc hb.size _) l1 (k1.alloc _) hb.size (Blk.new W _ _) (Nat.ne_of_lt k1.lt)
          rw [← HR.out, ← HA0.out] at hn
          simp only [Act.put, List.setIfInBounds_toArray, List.set_cons_zero, List.set_cons_succ] at hn
          exact hn)
      have st2_100 : Hid (∀ (W : World) (g15 : Nat), Below W0.heap.size W0 W → W0.heap.size ≤ g15 → Blk W g15 33 Z32 → R 6 #[true, true, true, true, true, true, true, true, true, false, true, false, false, false, false, false] (((a0.put (some 53) (.agg VA)).put (some 57) (.agg VB)).put (some 15) (.pointer (some ⟨g15, 0, none⟩))) W) := Lib.hid (by
        intro W g15 hb l0 k0
        rw [← HR.out, ← HA0.out]
        try simp only [Act.put, List.setIfInBounds_toArray, List.set_cons_zero, List.set_cons_succ]
        refine wpAnyH_ready (rs := [9, 11, 12]) (by kernel_rfl) (by simp) ?_
        refine AllReadyH.cons (o := { dst := some 59, op := Go.Op.call { callee := Go.Callee.value (Go.Operand.func 15), args := #[Go.Operand.tmp 58], argTypes := #[22] }, type := 33, pos := "law.go:93", after := #[{ on := 8, ground := Go.Ground.data }, { on := 7, ground := Go.Ground.chain }], guard := none }) rfl (fun K hK => ?_) (AllReadyH.cons (o := { dst := some 16, op := Go.Op.alloc 33, type := 0, pos := "law.go:93", after := #[], guard := none }) rfl (fun K hK => ?_) (AllReadyH.cons (o := { dst := some 17, op := Go.Op.alloc 33, type := 0, pos := "law.go:93", after := #[], guard := none }) rfl (fun K hK => ?_) AllReadyH.nil))
        · go_simp
          go_at_call 15
          refine (RC3.out hb).mono ?_
          rintro _ w6 ⟨rfl, hb6⟩
          go_wp2_with fail
          refine hK.out _ _ trivial (fun hHeld => ?_)
          clear hK K
          try simp only [Act.put, List.setIfInBounds_toArray, List.set_cons_zero, List.set_cons_succ]
          have hn := st3_100.out w6 g15 (hb.trans (hb6.mono hb.size)) l0 (k0.below hb6 k0.lt)
          rw [← HR.out, ← HA0.out] at hn
          simp only [Act.put, List.setIfInBounds_toArray, List.set_cons_zero, List.set_cons_succ] at hn
          exact hn
        · go_simp
          refine hK.out _ _ trivial (fun hHeld => ?_)
          clear hK K
          try simp only [Act.put, List.setIfInBounds_toArray, List.set_cons_zero, List.set_cons_succ]
          have hn := st2_110.out (W.alloc (.cells Z32 33)) g15 W.heap.size (hb.alloc hb.size _) l0 (k0.alloc _) hb.size (Blk.new W _ _) (Nat.ne_of_lt k0.lt)
          rw [← HR.out, ← HA0.out] at hn
          simp only [Act.put, List.setIfInBounds_toArray, List.set_cons_zero, List.set_cons_succ] at hn
          exact hn
        · go_simp
          refine hK.out _ _ trivial (fun hHeld => ?_)
          clear hK K
          try simp only [Act.put, List.setIfInBounds_toArray, List.set_cons_zero, List.set_cons_succ]
          have hn := st2_101.out (W.alloc (.cells Z32 33)) g15 W.heap.size (hb.alloc hb.size _) l0 (k0.alloc _) hb.size (Blk.new W _ _) (Nat.ne_of_lt k0.lt)
          rw [← HR.out, ← HA0.out] at hn
          simp only [Act.put, List.setIfInBounds_toArray, List.set_cons_zero, List.set_cons_succ] at hn
          exact hn)
      have st1_011 : Hid (∀ (W : World) (g16 g17 : Nat), Below W0.heap.size W0 W → W0.heap.size ≤ g16 → Blk W g16 33 Z32 → W0.heap.size ≤ g17 → Blk W g17 33 Z32 → g16 ≠ g17 → R 6 #[true, true, true, true, true, true, true, false, true, false, false, true, true, false, false, false] (((a0.put (some 53) (.agg VA)).put (some 16) (.pointer (some ⟨g16, 0, none⟩))).put (some 17) (.pointer (some ⟨g17, 0, none⟩))) W) := Lib.hid (by
        intro W g16 g17 hb l1 k1 l2 k2 d12
        rw [← HR.out, ← HA0.out]
        try simp only [Act.put, List.setIfInBounds_toArray, List.set_cons_zero, List.set_cons_succ]
        refine wpAnyH_ready (rs := [7, 10]) (by kernel_rfl) (by simp) ?_
        refine AllReadyH.cons (o := { dst := some 57, op := Go.Op.call { callee := Go.Callee.value (Go.Operand.func 15), args := #[Go.Operand.tmp 56], argTypes := #[22] }, type := 33, pos := "law.go:93", after := #[{ on := 6, ground := Go.Ground.data }, { on := 3, ground := Go.Ground.chain }], guard := none }) rfl (fun K hK => ?_) (AllReadyH.cons (o := { dst := some 15, op := Go.Op.alloc 33, type := 0, pos := "law.go:93", after := #[], guard := none }) rfl (fun K hK => ?_) AllReadyH.nil)
        · go_simp
          go_at_call 15
          refine (RC2.out hb).mono ?_
          rintro _ w6 ⟨rfl, hb6⟩
          go_wp2_with fail
          refine hK.out _ _ trivial (fun hHeld => ?_)
          clear hK K
          try simp only [Act.put, List.setIfInBounds_toArray, List.set_cons_zero, List.set_cons_succ]
          have hn := st2_011.out w6 g16 g17 (hb.trans (hb6.mono hb.size)) l1 (k1.below hb6 k1.lt) l2 (k2.below hb6 k2.lt) d12
          rw [← HR.out, ← HA0.out] at hn
          simp only [Act.put, List.setIfInBounds_toArray, List.set_cons_zero, List.set_cons_succ] at hn
          exact hn
        · go_simp
          refine hK.out _ _ trivial (fun hHeld => ?_)
          clear hK K
          try simp only [Act.put, List.setIfInBounds_toArray, List.set_cons_zero, List.set_cons_succ]
          have hn := st1_111.out (W.alloc (.cells Z32 33)) W.heap.size g16 g17 (hb.alloc hb.size _) hb.size (Blk.new W _ _) l1 (k1.alloc _) l2 (k2.alloc _) (Nat.ne_of_gt k1.lt) (Nat.ne_of_gt k2.lt) d12
          rw [← HR.out, ← HA0.out] at hn
          simp only [Act.put, List.setIfInBounds_toArray, List.set_cons_zero, List.set_cons_succ] at hn
          exact hn)
      have st1_101 : Hid (∀ (W : World) (g15 g17 : Nat), Below W0.heap.size W0 W → W0.heap.size ≤ g15 → Blk W g15 33 Z32 → W0.heap.size ≤ g17 → Blk W g17 33 Z32 → g15 ≠ g17 → R 6 #[true, true, true, true, true, true, true, false, true, false, true, false, true, false, false, false] (((a0.put (some 53) (.agg VA)).put (some 15) (.pointer (some ⟨g15, 0, none⟩))).put (some 17) (.pointer (some ⟨g17, 0, none⟩))) W) := Lib.hid (by
        intro W g15 g17 hb l0 k0 l2 k2 d02
        rw [← HR.out, ← HA0.out]
        try simp only [Act.put, List.setIfInBounds_toArray, List.set_cons_zero, List.set_cons_succ]
        refine wpAnyH_ready (rs := [7, 11]) (by kernel_rfl) (by simp) ?_
        refine AllReadyH.cons (o := { dst := some 57, op := Go.Op.call { callee := Go.Callee.value (Go.Operand.func 15), args := #[Go.Operand.tmp 56], argTypes := #[22] }, type := 33, pos := "law.go:93", after := #[{ on := 6, ground := Go.Ground.data }, { on := 3, ground := Go.Ground.chain }], guard := none }) rfl (fun K hK => ?_) (AllReadyH.cons (o := { dst := some 16, op := Go.Op.alloc 33, type := 0, pos := "law.go:93", after := #[], guard := none }) rfl (fun K hK => ?_) AllReadyH.nil)
        · go_simp
          go_at_call 15
          refine (RC2.out hb).mono ?_
          rintro _ w6 ⟨rfl, hb6⟩
          go_wp2_with fail
          refine hK.out _ _ trivial (fun hHeld => ?_)
          clear hK K
          try simp only [Act.put, List.setIfInBounds_toArray, List.set_cons_zero, List.set_cons_succ]
          have hn := st2_101.out w6 g15 g17 (hb.trans (hb6.mono hb.size)) l0 (k0.below hb6 k0.lt) l2 (k2.below hb6 k2.lt) d02
          rw [← HR.out, ← HA0.out] at hn
          simp only [Act.put, List.setIfInBounds_toArray, List.set_cons_zero, List.set_cons_succ] at hn
          exact hn
        · go_simp
          refine hK.out _ _ trivial (fun hHeld => ?_)
          clear hK K
          try simp only [Act.put, List.setIfInBounds_toArray, List.set_cons_zero, List.set_cons_succ]
          have hn := st1_111.out (W.alloc (.cells Z32 33)) g15 W.heap.size g17 (hb.alloc hb.size _) l0 (k0.alloc _) hb.size (Blk.new W _ _) l2 (k2.alloc _) (Nat.ne_of_lt k0.lt) d02 (Nat.ne_of_gt k2.lt)
          rw [← HR.out, ← HA0.out] at hn
          simp only [Act.put, List.setIfInBounds_toArray, List.set_cons_zero, List.set_cons_succ] at hn
          exact hn)
      have st1_110 : Hid (∀ (W : World) (g15 g16 : Nat), Below W0.heap.size W0 W → W0.heap.size ≤ g15 → Blk W g15 33 Z32 → W0.heap.size ≤ g16 → Blk W g16 33 Z32 → g15 ≠ g16 → R 6 #[true, true, true, true, true, true, true, false, true, false, true, true, false, false, false, false] (((a0.put (some 53) (.agg VA)).put (some 15) (.pointer (some ⟨g15, 0, none⟩))).put (some 16) (.pointer (some ⟨g16, 0, none⟩))) W) := Lib.hid (by
        intro W g15 g16 hb l0 k0 l1 k1 d01
        rw [← HR.out, ← HA0.out]
        try simp only [Act.put, List.setIfInBounds_toArray, List.set_cons_zero, List.set_cons_succ]
        refine wpAnyH_ready (rs := [7, 12]) (by kernel_rfl) (by simp) ?_
        refine AllReadyH.cons (o := { dst := some 57, op := Go.Op.call { callee := Go.Callee.value (Go.Operand.func 15), args := #[Go.Operand.tmp 56], argTypes := #[22] }, type := 33, pos := "law.go:93", after := #[{ on := 6, ground := Go.Ground.data }, { on := 3, ground := Go.Ground.chain }], guard := none }) rfl (fun K hK => ?_) (AllReadyH.cons (o := { dst := some 17, op := Go.Op.alloc 33, type := 0, pos := "law.go:93", after := #[], guard := none }) rfl (fun K hK => ?_) AllReadyH.nil)
        · go_simp
          go_at_call 15
          refine (RC2.out hb).mono ?_
          rintro _ w6 ⟨rfl, hb6⟩
          go_wp2_with fail
          refine hK.out _ _ trivial (fun hHeld => ?_)
          clear hK K
          try simp only [Act.put, List.setIfInBounds_toArray, List.set_cons_zero, List.set_cons_succ]
          have hn := st2_110.out w6 g15 g16 (hb.trans (hb6.mono hb.size)) l0 (k0.below hb6 k0.lt) l1 (k1.below hb6 k1.lt) d01
          rw [← HR.out, ← HA0.out] at hn
          simp only [Act.put, List.setIfInBounds_toArray, List.set_cons_zero, List.set_cons_succ] at hn
          exact hn
        · go_simp
          refine hK.out _ _ trivial (fun hHeld => ?_)
          clear hK K
          try simp only [Act.put, List.setIfInBounds_toArray, List.set_cons_zero, List.set_cons_succ]
          have hn := st1_111.out (W.alloc (.cells Z32 33)) g15 g16 W.heap.size (hb.alloc hb.size _) l0 (k0.alloc _) l1 (k1.alloc _) hb.size (Blk.new W _ _) d01 (Nat.ne_of_lt k0.lt) (Nat.ne_of_lt k1.lt)
          rw [← HR.out, ← HA0.out] at hn
          simp only [Act.put, List.setIfInBounds_toArray, List.set_cons_zero, List.set_cons_succ] at hn
          exact hn)
      have st0_111 : Hid (∀ (W : World) (g15 g16 g17 : Nat), Below W0.heap.size W0 W → W0.heap.size ≤ g15 → Blk W g15 33 Z32 → W0.heap.size ≤ g16 → Blk W g16 33 Z32 → W0.heap.size ≤ g17 → Blk W g17 33 Z32 → g15 ≠ g16 → g15 ≠ g17 → g16 ≠ g17 → R 6 #[true, true, true, false, true, true, true, false, true, false, true, true, true, false, false, false] (((a0.put (some 15) (.pointer (some ⟨g15, 0, none⟩))).put (some 16) (.pointer (some ⟨g16, 0, none⟩))).put (some 17) (.pointer (some ⟨g17, 0, none⟩))) W) := Lib.hid (by
        intro W g15 g16 g17 hb l0 k0 l1 k1 l2 k2 d01 d02 d12
        rw [← HR.out, ← HA0.out]
        try simp only [Act.put, List.setIfInBounds_toArray, List.set_cons_zero, List.set_cons_succ]
        refine wpAnyH_ready (rs := [3]) (by kernel_rfl) (by simp) ?_
        refine AllReadyH.cons (o := { dst := some 53, op := Go.Op.call { callee := Go.Callee.value (Go.Operand.func 15), args := #[Go.Operand.tmp 52], argTypes := #[22] }, type := 33, pos := "law.go:93", after := #[{ on := 2, ground := Go.Ground.data }], guard := none }) rfl (fun K hK => ?_) AllReadyH.nil
        · go_simp
          go_at_call 15
          refine (RC1.out hb).mono ?_
          rintro _ w6 ⟨rfl, hb6⟩
          go_wp2_with fail
          refine hK.out _ _ trivial (fun hHeld => ?_)
          clear hK K
          try simp only [Act.put, List.setIfInBounds_toArray, List.set_cons_zero, List.set_cons_succ]
          have hn := st1_111.out w6 g15 g16 g17 (hb.trans (hb6.mono hb.size)) l0 (k0.below hb6 k0.lt) l1 (k1.below hb6 k1.lt) l2 (k2.below hb6 k2.lt) d01 d02 d12
          rw [← HR.out, ← HA0.out] at hn
          simp only [Act.put, List.setIfInBounds_toArray, List.set_cons_zero, List.set_cons_succ] at hn
          exact hn)
      have st2_000 : Hid (∀ (W : World), Below W0.heap.size W0 W → R 7 #[true, true, true, true, true, true, true, true, true, false, false, false, false, false, false, false] ((a0.put (some 53) (.agg VA)).put (some 57) (.agg VB)) W) := Lib.hid (by
        intro W  hb 
        rw [← HR.out, ← HA0.out]
        try simp only [Act.put, List.setIfInBounds_toArray, List.set_cons_zero, List.set_cons_succ]
        refine wpAnyH_ready (rs := [9, 10, 11, 12]) (by kernel_rfl) (by simp) ?_
        refine AllReadyH.cons (o := { dst := some 59, op := Go.Op.call { callee := Go.Callee.value (Go.Operand.func 15), args := #[Go.Operand.tmp 58], argTypes := #[22] }, type := 33, pos := "law.go:93", after := #[{ on := 8, ground := Go.Ground.data }, { on := 7, ground := Go.Ground.chain }], guard := none }) rfl (fun K hK => ?_) (AllReadyH.cons (o := { dst := some 15, op := Go.Op.alloc 33, type := 0, pos := "law.go:93", after := #[], guard := none }) rfl (fun K hK => ?_) (AllReadyH.cons (o := { dst := some 16, op := Go.Op.alloc 33, type := 0, pos := "law.go:93", after := #[], guard := none }) rfl (fun K hK => ?_) (AllReadyH.cons (o := { dst := some 17, op := Go.Op.alloc 33, type := 0, pos := "law.go:93", after := #[], guard := none }) rfl (fun K hK => ?_) AllReadyH.nil)))
        · go_simp
          go_at_call 15
          refine (RC3.out hb).mono ?_
          rintro _ w6 ⟨rfl, hb6⟩
          go_wp2_with fail
          refine hK.out _ _ trivial (fun hHeld => ?_)
          clear hK K
          try simp only [Act.put, List.setIfInBounds_toArray, List.set_cons_zero, List.set_cons_succ]
          have hn := st3_000.out w6 (hb.trans (hb6.mono hb.size))
          rw [← HR.out, ← HA0.out] at hn
          simp only [Act.put, List.setIfInBounds_toArray, List.set_cons_zero, List.set_cons_succ] at hn
          exact hn
        · go_simp
          refine hK.out _ _ trivial (fun hHeld => ?_)
          clear hK K
          try simp only [Act.put, List.setIfInBounds_toArray, List.set_cons_zero, List.set_cons_succ]
          have hn := st2_100.out (W.alloc (.cells Z32 33)) W.heap.size (hb.alloc hb.size _) hb.size (Blk.new W _ _)
          rw [← HR.out, ← HA0.out] at hn
          simp only [Act.put, List.setIfInBounds_toArray, List.set_cons_zero, List.set_cons_succ] at hn
          exact hn
        · go_simp
          refine hK.out _ _ trivial (fun hHeld => ?_)
          clear hK K
          try simp only [Act.put, List.setIfInBounds_toArray, List.set_cons_zero, List.set_cons_succ]
          have hn := st2_010.out (W.alloc (.cells Z32 33)) W.heap.size (hb.alloc hb.size _) hb.size (Blk.new W _ _)
          rw [← HR.out, ← HA0.out] at hn
          simp only [Act.put, List.setIfInBounds_toArray, List.set_cons_zero, List.set_cons_succ] at hn
          exact hn
        · go_simp
          refine hK.out _ _ trivial (fun hHeld => ?_)
          clear hK K
          try simp only [Act.put, List.setIfInBounds_toArray, List.set_cons_zero, List.set_cons_succ]
          have hn := st2_001.out (W.alloc (.cells Z32 33)) W.heap.size (hb.alloc hb.size _) hb.size (Blk.new W _ _)
          rw [← HR.out, ← HA0.out] at hn
          simp only [Act.put, List.setIfInBounds_toArray, List.set_cons_zero, List.set_cons_succ] at hn
          exact hn)
      have st1_001 : Hid (∀ (W : World) (g17 : Nat), Below W0.heap.size W0 W → W0.heap.size ≤ g17 → Blk W g17 33 Z32 → R 7 #[true, true, true, true, true, true, true, false, true, false, false, false, true, false, false, false] ((a0.put (some 53) (.agg VA)).put (some 17) (.pointer (some ⟨g17, 0, none⟩))) W) := Lib.hid (by
        intro W g17 hb l2 k2
        rw [← HR.out, ← HA0.out]
        try simp only [Act.put, List.setIfInBounds_toArray, List.set_cons_zero, List.set_cons_succ]
        refine wpAnyH_ready (rs := [7, 10, 11]) (by kernel_rfl) (by simp) ?_
        refine AllReadyH.cons (o := { dst := some 57, op := Go.Op.call { callee := Go.Callee.value (Go.Operand.func 15), args := #[Go.Operand.tmp 56], argTypes := #[22] }, type := 33, pos := "law.go:93", after := #[{ on := 6, ground := Go.Ground.data }, { on := 3, ground := Go.Ground.chain }], guard := none }) rfl (fun K hK => ?_) (AllReadyH.cons (o := { dst := some 15, op := Go.Op.alloc 33, type := 0, pos := "law.go:93", after := #[], guard := none }) rfl (fun K hK => ?_) (AllReadyH.cons (o := { dst := some 16, op := Go.Op.alloc 33, type := 0, pos := "law.go:93", after := #[], guard := none }) rfl (fun K hK => ?_) AllReadyH.nil))
        · go_simp
          go_at_call 15
          refine (RC2.out hb).mono ?_
          rintro _ w6 ⟨rfl, hb6⟩
          go_wp2_with fail
          refine hK.out _ _ trivial (fun hHeld => ?_)
          clear hK K
          try simp only [Act.put, List.setIfInBounds_toArray, List.set_cons_zero, List.set_cons_succ]
          have hn := st2_001.out w6 g17 (hb.trans (hb6.mono hb.size)) l2 (k2.below hb6 k2.lt)
          rw [← HR.out, ← HA0.out] at hn
          simp only [Act.put, List.setIfInBounds_toArray, List.set_cons_zero, List.set_cons_succ] at hn
          exact hn
        · go_simp
          refine hK.out _ _ trivial (fun hHeld => ?_)
          clear hK K
          try simp only [Act.put, List.setIfInBounds_toArray, List.set_cons_zero, List.set_cons_succ]
          have hn := st1_101.out (W.alloc (.cells Z32 33)) W.heap.size g17 (hb.alloc hb.size _) hb.size (Blk.new W _ _) l2 (k2.alloc _) (Nat.ne_of_gt k2.lt)
          rw [← HR.out, ← HA0.out] at hn
          simp only [Act.put, List.setIfInBounds_toArray, List.set_cons_zero, List.set_cons_succ] at hn
          exact hn
        · go_simp
          refine hK.out _ _ trivial (fun hHeld => ?_)
          clear hK K
          try simp only [Act.put, List.setIfInBounds_toArray, List.set_cons_zero, List.set_cons_succ]
          have hn := st1_011.out (W.alloc (.cells Z32 33)) W.heap.size g17 (hb.alloc hb.size _) hb.size (Blk.new W _ _) l2 (k2.alloc _) (Nat.ne_of_gt k2.lt)
          rw [← HR.out, ← HA0.out] at hn
          simp only [Act.put, List.setIfInBounds_toArray, List.set_cons_zero, List.set_cons_succ] at hn
          exact hn)
      have st1_010 : Hid (∀ (W : World) (g16 : Nat), Below W0.heap.size W0 W → W0.heap.size ≤ g16 → Blk W g16 33 Z32 → R 7 #[true, true, true, true, true, true, true, false, true, false, false, true, false, false, false, false] ((a0.put (some 53) (.agg VA)).put (some 16) (.pointer (some ⟨g16, 0, none⟩))) W) := Lib.hid (by
        intro W g16 hb l1 k1
        rw [← HR.out, ← HA0.out]
        try simp only [Act.put, List.setIfInBounds_toArray, List.set_cons_zero, List.set_cons_succ]
        refine wpAnyH_ready (rs := [7, 10, 12]) (by kernel_rfl) (by simp) ?_
        refine AllReadyH.cons (o := { dst := some 57, op := Go.Op.call { callee := Go.Callee.value (Go.Operand.func 15), args := #[Go.Operand.tmp 56], argTypes := #[22] }, type := 33, pos := "law.go:93", after := #[{ on := 6, ground := Go.Ground.data }, { on := 3, ground := Go.Ground.chain }], guard := none }) rfl (fun K hK => ?_) (AllReadyH.cons (o := { dst := some 15, op := Go.Op.alloc 33, type := 0, pos := "law.go:93", after := #[], guard := none }) rfl (fun K hK => ?_) (AllReadyH.cons (o := { dst := some 17, op := Go.Op.alloc 33, type := 0, pos := "law.go:93", after := #[], guard := none }) rfl (fun K hK => ?_) AllReadyH.nil))
        · go_simp
          go_at_call 15
          refine (RC2.out hb).mono ?_
          rintro _ w6 ⟨rfl, hb6⟩
          go_wp2_with fail
          refine hK.out _ _ trivial (fun hHeld => ?_)
          clear hK K
          try simp only [Act.put, List.setIfInBounds_toArray, List.set_cons_zero, List.set_cons_succ]
          have hn := st2_010.out w6 g16 (hb.trans (hb6.mono hb.size)) l1 (k1.below hb6 k1.lt)
          rw [← HR.out, ← HA0.out] at hn
          simp only [Act.put, List.setIfInBounds_toArray, List.set_cons_zero, List.set_cons_succ] at hn
          exact hn
        · go_simp
          refine hK.out _ _ trivial (fun hHeld => ?_)
          clear hK K
          try simp only [Act.put, List.setIfInBounds_toArray, List.set_cons_zero, List.set_cons_succ]
          have hn := st1_110.out (W.alloc (.cells Z32 33)) W.heap.size g16 (hb.alloc hb.size _) hb.size (Blk.new W _ _) l1 (k1.alloc _) (Nat.ne_of_gt k1.lt)
          rw [← HR.out, ← HA0.out] at hn
          simp only [Act.put, List.setIfInBounds_toArray, List.set_cons_zero, List.set_cons_succ] at hn
          exact hn
        · go_simp
          refine hK.out _ _ trivial (fun hHeld => ?_)
          clear hK K
          try simp only [Act.put, List.setIfInBounds_toArray, List.set_cons_zero, List.set_cons_succ]
          have hn := st1_011.out (W.alloc (.cells Z32 33)) g16 W.heap.size (hb.alloc hb.size _) l1 (k1.alloc _) hb.size (Blk.new W _ _) (Nat.ne_of_lt k1.lt)
          rw [← HR.out, ← HA0.out] at hn
          simp only [Act.put, List.setIfInBounds_toArray, List.set_cons_zero, List.set_cons_succ] at hn
          exact hn)
      have st1_100 : Hid (∀ (W : World) (g15 : Nat), Below W0.heap.size W0 W → W0.heap.size ≤ g15 → Blk W g15 33 Z32 → R 7 #[true, true, true, true, true, true, true, false, true, false, true, false, false, false, false, false] ((a0.put (some 53) (.agg VA)).put (some 15) (.pointer (some ⟨g15, 0, none⟩))) W) := Lib.hid (by
        intro W g15 hb l0 k0
        rw [← HR.out, ← HA0.out]
        try simp only [Act.put, List.setIfInBounds_toArray, List.set_cons_zero, List.set_cons_succ]
        refine wpAnyH_ready (rs := [7, 11, 12]) (by kernel_rfl) (by simp) ?_
        refine AllReadyH.cons (o := { dst := some 57, op := Go.Op.call { callee := Go.Callee.value (Go.Operand.func 15), args := #[Go.Operand.tmp 56], argTypes := #[22] }, type := 33, pos := "law.go:93", after := #[{ on := 6, ground := Go.Ground.data }, { on := 3, ground := Go.Ground.chain }], guard := none }) rfl (fun K hK => ?_) (AllReadyH.cons (o := { dst := some 16, op := Go.Op.alloc 33, type := 0, pos := "law.go:93", after := #[], guard := none }) rfl (fun K hK => ?_) (AllReadyH.cons (o := { dst := some 17, op := Go.Op.alloc 33, type := 0, pos := "law.go:93", after := #[], guard := none }) rfl (fun K hK => ?_) AllReadyH.nil))
        · go_simp
          go_at_call 15
          refine (RC2.out hb).mono ?_
          rintro _ w6 ⟨rfl, hb6⟩
          go_wp2_with fail
          refine hK.out _ _ trivial (fun hHeld => ?_)
          clear hK K
          try simp only [Act.put, List.setIfInBounds_toArray, List.set_cons_zero, List.set_cons_succ]
          have hn := st2_100.out w6 g15 (hb.trans (hb6.mono hb.size)) l0 (k0.below hb6 k0.lt)
          rw [← HR.out, ← HA0.out] at hn
          simp only [Act.put, List.setIfInBounds_toArray, List.set_cons_zero, List.set_cons_succ] at hn
          exact hn
        · go_simp
          refine hK.out _ _ trivial (fun hHeld => ?_)
          clear hK K
          try simp only [Act.put, List.setIfInBounds_toArray, List.set_cons_zero, List.set_cons_succ]
          have hn := st1_110.out (W.alloc (.cells Z32 33)) g15 W.heap.size (hb.alloc hb.size _) l0 (k0.alloc _) hb.size (Blk.new W _ _) (Nat.ne_of_lt k0.lt)
          rw [← HR.out, ← HA0.out] at hn
          simp only [Act.put, List.setIfInBounds_toArray, List.set_cons_zero, List.set_cons_succ] at hn
          exact hn
        · go_simp
          refine hK.out _ _ trivial (fun hHeld => ?_)
          clear hK K
          try simp only [Act.put, List.setIfInBounds_toArray, List.set_cons_zero, List.set_cons_succ]
          have hn := st1_101.out (W.alloc (.cells Z32 33)) g15 W.heap.size (hb.alloc hb.size _) l0 (k0.alloc _) hb.size (Blk.new W _ _) (Nat.ne_of_lt k0.lt)
          rw [← HR.out, ← HA0.out] at hn
          simp only [Act.put, List.setIfInBounds_toArray, List.set_cons_zero, List.set_cons_succ] at hn
          exact hn)
      have st0_011 : Hid (∀ (W : World) (g16 g17 : Nat), Below W0.heap.size W0 W → W0.heap.size ≤ g16 → Blk W g16 33 Z32 → W0.heap.size ≤ g17 → Blk W g17 33 Z32 → g16 ≠ g17 → R 7 #[true, true, true, false, true, true, true, false, true, false, false, true, true, false, false, false] ((a0.put (some 16) (.pointer (some ⟨g16, 0, none⟩))).put (some 17) (.pointer (some ⟨g17, 0, none⟩))) W) := Lib.hid (by
        intro W g16 g17 hb l1 k1 l2 k2 d12
        rw [← HR.out, ← HA0.out]
        try simp only [Act.put, List.setIfInBounds_toArray, List.set_cons_zero, List.set_cons_succ]
        refine wpAnyH_ready (rs := [3, 10]) (by kernel_rfl) (by simp) ?_
        refine AllReadyH.cons (o := { dst := some 53, op := Go.Op.call { callee := Go.Callee.value (Go.Operand.func 15), args := #[Go.Operand.tmp 52], argTypes := #[22] }, type := 33, pos := "law.go:93", after := #[{ on := 2, ground := Go.Ground.data }], guard := none }) rfl (fun K hK => ?_) (AllReadyH.cons (o := { dst := some 15, op := Go.Op.alloc 33, type := 0, pos := "law.go:93", after := #[], guard := none }) rfl (fun K hK => ?_) AllReadyH.nil)
        · go_simp
          go_at_call 15
          refine (RC1.out hb).mono ?_
          rintro _ w6 ⟨rfl, hb6⟩
          go_wp2_with fail
          refine hK.out _ _ trivial (fun hHeld => ?_)
          clear hK K
          try simp only [Act.put, List.setIfInBounds_toArray, List.set_cons_zero, List.set_cons_succ]
          have hn := st1_011.out w6 g16 g17 (hb.trans (hb6.mono hb.size)) l1 (k1.below hb6 k1.lt) l2 (k2.below hb6 k2.lt) d12
          rw [← HR.out, ← HA0.out] at hn
          simp only [Act.put, List.setIfInBounds_toArray, List.set_cons_zero, List.set_cons_succ] at hn
          exact hn
        · go_simp
          refine hK.out _ _ trivial (fun hHeld => ?_)
          clear hK K
          try simp only [Act.put, List.setIfInBounds_toArray, List.set_cons_zero, List.set_cons_succ]
          have hn := st0_111.out (W.alloc (.cells Z32 33)) W.heap.size g16 g17 (hb.alloc hb.size _) hb.size (Blk.new W _ _) l1 (k1.alloc _) l2 (k2.alloc _) (Nat.ne_of_gt k1.lt) (Nat.ne_of_gt k2.lt) d12
          rw [← HR.out, ← HA0.out] at hn
          simp only [Act.put, List.setIfInBounds_toArray, List.set_cons_zero, List.set_cons_succ] at hn
          exact hn)
      have st0_101 : Hid (∀ (W : World) (g15 g17 : Nat), Below W0.heap.size W0 W → W0.heap.size ≤ g15 → Blk W g15 33 Z32 → W0.heap.size ≤ g17 → Blk W g17 33 Z32 → g15 ≠ g17 → R 7 #[true, true, true, false, true, true, true, false, true, false, true, false, true, false, false, false] ((a0.put (some 15) (.pointer (some ⟨g15, 0, none⟩))).put (some 17) (.pointer (some ⟨g17, 0, none⟩))) W) := Lib.hid (by
        intro W g15 g17 hb l0 k0 l2 k2 d02
        rw [← HR.out, ← HA0.out]
        try simp only [Act.put, List.setIfInBounds_toArray, List.set_cons_zero, List.set_cons_succ]
        refine wpAnyH_ready (rs := [3, 11]) (by kernel_rfl) (by simp) ?_
        refine AllReadyH.cons (o := { dst := some 53, op := Go.Op.call { callee := Go.Callee.value (Go.Operand.func 15), args := #[Go.Operand.tmp 52], argTypes := #[22] }, type := 33, pos := "law.go:93", after := #[{ on := 2, ground := Go.Ground.data }], guard := none }) rfl (fun K hK => ?_) (AllReadyH.cons (o := { dst := some 16, op := Go.Op.alloc 33, type := 0, pos := "law.go:93", after := #[], guard := none }) rfl (fun K hK => ?_) AllReadyH.nil)
        · go_simp
          go_at_call 15
          refine (RC1.out hb).mono ?_
          rintro _ w6 ⟨rfl, hb6⟩
          go_wp2_with fail
          refine hK.out _ _ trivial (fun hHeld => ?_)
          clear hK K
          try simp only [Act.put, List.setIfInBounds_toArray, List.set_cons_zero, List.set_cons_succ]
          have hn := st1_101.out w6 g15 g17 (hb.trans (hb6.mono hb.size)) l0 (k0.below hb6 k0.lt) l2 (k2.below hb6 k2.lt) d02
          rw [← HR.out, ← HA0.out] at hn
          simp only [Act.put, List.setIfInBounds_toArray, List.set_cons_zero, List.set_cons_succ] at hn
          exact hn
        · go_simp
          refine hK.out _ _ trivial (fun hHeld => ?_)
          clear hK K
          try simp only [Act.put, List.setIfInBounds_toArray, List.set_cons_zero, List.set_cons_succ]
          have hn := st0_111.out (W.alloc (.cells Z32 33)) g15 W.heap.size g17 (hb.alloc hb.size _) l0 (k0.alloc _) hb.size (Blk.new W _ _) l2 (k2.alloc _) (Nat.ne_of_lt k0.lt) d02 (Nat.ne_of_gt k2.lt)
          rw [← HR.out, ← HA0.out] at hn
          simp only [Act.put, List.setIfInBounds_toArray, List.set_cons_zero, List.set_cons_succ] at hn
          exact hn)
      have st0_110 : Hid (∀ (W : World) (g15 g16 : Nat), Below W0.heap.size W0 W → W0.heap.size ≤ g15 → Blk W g15 33 Z32 → W0.heap.size ≤ g16 → Blk W g16 33 Z32 → g15 ≠ g16 → R 7 #[true, true, true, false, true, true, true, false, true, false, true, true, false, false, false, false] ((a0.put (some 15) (.pointer (some ⟨g15, 0, none⟩))).put (some 16) (.pointer (some ⟨g16, 0, none⟩))) W) := Lib.hid (by
        intro W g15 g16 hb l0 k0 l1 k1 d01
        rw [← HR.out, ← HA0.out]
        try simp only [Act.put, List.setIfInBounds_toArray, List.set_cons_zero, List.set_cons_succ]
        refine wpAnyH_ready (rs := [3, 12]) (by kernel_rfl) (by simp) ?_
        refine AllReadyH.cons (o := { dst := some 53, op := Go.Op.call { callee := Go.Callee.value (Go.Operand.func 15), args := #[Go.Operand.tmp 52], argTypes := #[22] }, type := 33, pos := "law.go:93", after := #[{ on := 2, ground := Go.Ground.data }], guard := none }) rfl (fun K hK => ?_) (AllReadyH.cons (o := { dst := some 17, op := Go.Op.alloc 33, type := 0, pos := "law.go:93", after := #[], guard := none }) rfl (fun K hK => ?_) AllReadyH.nil)
        · go_simp
          go_at_call 15
          refine (RC1.out hb).mono ?_
          rintro _ w6 ⟨rfl, hb6⟩
          go_wp2_with fail
          refine hK.out _ _ trivial (fun hHeld => ?_)
          clear hK K
          try simp only [Act.put, List.setIfInBounds_toArray, List.set_cons_zero, List.set_cons_succ]
          have hn := st1_110.out w6 g15 g16 (hb.trans (hb6.mono hb.size)) l0 (k0.below hb6 k0.lt) l1 (k1.below hb6 k1.lt) d01
          rw [← HR.out, ← HA0.out] at hn
          simp only [Act.put, List.setIfInBounds_toArray, List.set_cons_zero, List.set_cons_succ] at hn
          exact hn
        · go_simp
          refine hK.out _ _ trivial (fun hHeld => ?_)
          clear hK K
          try simp only [Act.put, List.setIfInBounds_toArray, List.set_cons_zero, List.set_cons_succ]
          have hn := st0_111.out (W.alloc (.cells Z32 33)) g15 g16 W.heap.size (hb.alloc hb.size _) l0 (k0.alloc _) l1 (k1.alloc _) hb.size (Blk.new W _ _) d01 (Nat.ne_of_lt k0.lt) (Nat.ne_of_lt k1.lt)
          rw [← HR.out, ← HA0.out] at hn
          simp only [Act.put, List.setIfInBounds_toArray, List.set_cons_zero, List.set_cons_succ] at hn
          exact hn)
      have st1_000 : Hid (∀ (W : World), Below W0.heap.size W0 W → R 8 #[true, true, true, true, true, true, true, false, true, false, false, false, false, false, false, false] (a0.put (some 53) (.agg VA)) W) := Lib.hid (by
        intro W  hb 
        rw [← HR.out, ← HA0.out]
        try simp only [Act.put, List.setIfInBounds_toArray, List.set_cons_zero, List.set_cons_succ]
        refine wpAnyH_ready (rs := [7, 10, 11, 12]) (by kernel_rfl) (by simp) ?_
        refine AllReadyH.cons (o := { dst := some 57, op := Go.Op.call { callee := Go.Callee.value (Go.Operand.func 15), args := #[Go.Operand.tmp 56], argTypes := #[22] }, type := 33, pos := "law.go:93", after := #[{ on := 6, ground := Go.Ground.data }, { on := 3, ground := Go.Ground.chain }], guard := none }) rfl (fun K hK => ?_) (AllReadyH.cons (o := { dst := some 15, op := Go.Op.alloc 33, type := 0, pos := "law.go:93", after := #[], guard := none }) rfl (fun K hK => ?_) (AllReadyH.cons (o := { dst := some 16, op := Go.Op.alloc 33, type := 0, pos := "law.go:93", after := #[], guard := none }) rfl (fun K hK => ?_) (AllReadyH.cons (o := { dst := some 17, op := Go.Op.alloc 33, type := 0, pos := "law.go:93", after := #[], guard := none }) rfl (fun K hK => ?_) AllReadyH.nil)))
        · go_simp
          go_at_call 15
          refine (RC2.out hb).mono ?_
          rintro _ w6 ⟨rfl, hb6⟩
          go_wp2_with fail
          refine hK.out _ _ trivial (fun hHeld => ?_)
          clear hK K
          try simp only [Act.put, List.setIfInBounds_toArray, List.set_cons_zero, List.set_cons_succ]
          have hn := st2_000.out w6 (hb.trans (hb6.mono hb.size))
          rw [← HR.out, ← HA0.out] at hn
          simp only [Act.put, List.setIfInBounds_toArray, List.set_cons_zero, List.set_cons_succ] at hn
          exact hn
        · go_simp
          refine hK.out _ _ trivial (fun hHeld => ?_)
          clear hK K
          try simp only [Act.put, List.setIfInBounds_toArray, List.set_cons_zero, List.set_cons_succ]
          have hn := st1_100.out (W.alloc (.cells Z32 33)) W.heap.size (hb.alloc hb.size _) hb.size (Blk.new W _ _)
          rw [← HR.out, ← HA0.out] at hn
          simp only [Act.put, List.setIfInBounds_toArray, List.set_cons_zero, List.set_cons_succ] at hn
          exact hn
        · go_simp
          refine hK.out _ _ trivial (fun hHeld => ?_)
          clear hK K
          try simp only [Act.put, List.setIfInBounds_toArray, List.set_cons_zero, List.set_cons_succ]
          have hn := st1_010.out (W.alloc (.cells Z32 33)) W.heap.size (hb.alloc hb.size _) hb.size (Blk.new W _ _)
          rw [← HR.out, ← HA0.out] at hn
          simp only [Act.put, List.setIfInBounds_toArray, List.set_cons_zero, List.set_cons_succ] at hn
          exact hn
        · go_simp
          refine hK.out _ _ trivial (fun hHeld => ?_)
          clear hK K
          try simp only [Act.put, List.setIfInBounds_toArray, List.set_cons_zero, List.set_cons_succ]
          have hn := st1_001.out (W.alloc (.cells Z32 33)) W.heap.size (hb.alloc hb.size _) hb.size (Blk.new W _ _)
          rw [← HR.out, ← HA0.out] at hn
          simp only [Act.put, List.setIfInBounds_toArray, List.set_cons_zero, List.set_cons_succ] at hn
          exact hn)
      have st0_001 : Hid (∀ (W : World) (g17 : Nat), Below W0.heap.size W0 W → W0.heap.size ≤ g17 → Blk W g17 33 Z32 → R 8 #[true, true, true, false, true, true, true, false, true, false, false, false, true, false, false, false] (a0.put (some 17) (.pointer (some ⟨g17, 0, none⟩))) W) := Lib.hid (by
        intro W g17 hb l2 k2
        rw [← HR.out, ← HA0.out]
        try simp only [Act.put, List.setIfInBounds_toArray, List.set_cons_zero, List.set_cons_succ]
        refine wpAnyH_ready (rs := [3, 10, 11]) (by kernel_rfl) (by simp) ?_
        refine AllReadyH.cons (o := { dst := some 53, op := Go.Op.call { callee := Go.Callee.value (Go.Operand.func 15), args := #[Go.Operand.tmp 52], argTypes := #[22] }, type := 33, pos := "law.go:93", after := #[{ on := 2, ground := Go.Ground.data }], guard := none }) rfl (fun K hK => ?_) (AllReadyH.cons (o := { dst := some 15, op := Go.Op.alloc 33, type := 0, pos := "law.go:93", after := #[], guard := none }) rfl (fun K hK => ?_) (AllReadyH.cons (o := { dst := some 16, op := Go.Op.alloc 33, type := 0, pos := "law.go:93", after := #[], guard := none }) rfl (fun K hK => ?_) AllReadyH.nil))
        · go_simp
          go_at_call 15
          refine (RC1.out hb).mono ?_
          rintro _ w6 ⟨rfl, hb6⟩
          go_wp2_with fail
          refine hK.out _ _ trivial (fun hHeld => ?_)
          clear hK K
          try simp only [Act.put, List.setIfInBounds_toArray, List.set_cons_zero, List.set_cons_succ]
          have hn := st1_001.out w6 g17 (hb.trans (hb6.mono hb.size)) l2 (k2.below hb6 k2.lt)
          rw [← HR.out, ← HA0.out] at hn
          simp only [Act.put, List.setIfInBounds_toArray, List.set_cons_zero, List.set_cons_succ] at hn
          exact hn
        · go_simp
          refine hK.out _ _ trivial (fun hHeld => ?_)
          clear hK K
          try simp only [Act.put, List.setIfInBounds_toArray, List.set_cons_zero, List.set_cons_succ]
          have hn := st0_101.out (W.alloc (.cells Z32 33)) W.heap.size g17 (hb.alloc hb.size _) hb.size (Blk.new W _ _) l2 (k2.alloc _) (Nat.ne_of_gt k2.lt)
          rw [← HR.out, ← HA0.out] at hn
          simp only [Act.put, List.setIfInBounds_toArray, List.set_cons_zero, List.set_cons_succ] at hn
          exact hn
        · go_simp
          refine hK.out _ _ trivial (fun hHeld => ?_)
          clear hK K
          try simp only [Act.put, List.setIfInBounds_toArray, List.set_cons_zero, List.set_cons_succ]
          have hn := st0_011.out (W.alloc (.cells Z32 33)) W.heap.size g17 (hb.alloc hb.size _) hb.size (Blk.new W _ _) l2 (k2.alloc _) (Nat.ne_of_gt k2.lt)
          rw [← HR.out, ← HA0.out] at hn
          simp only [Act.put, List.setIfInBounds_toArray, List.set_cons_zero, List.set_cons_succ] at hn
          exact hn)
      have st0_010 : Hid (∀ (W : World) (g16 : Nat), Below W0.heap.size W0 W → W0.heap.size ≤ g16 → Blk W g16 33 Z32 → R 8 #[true, true, true, false, true, true, true, false, true, false, false, true, false, false, false, false] (a0.put (some 16) (.pointer (some ⟨g16, 0, none⟩))) W) := Lib.hid (by
        intro W g16 hb l1 k1
        rw [← HR.out, ← HA0.out]
        try simp only [Act.put, List.setIfInBounds_toArray, List.set_cons_zero, List.set_cons_succ]
        refine wpAnyH_ready (rs := [3, 10, 12]) (by kernel_rfl) (by simp) ?_
        refine AllReadyH.cons (o := { dst := some 53, op := Go.Op.call { callee := Go.Callee.value (Go.Operand.func 15), args := #[Go.Operand.tmp 52], argTypes := #[22] }, type := 33, pos := "law.go:93", after := #[{ on := 2, ground := Go.Ground.data }], guard := none }) rfl (fun K hK => ?_) (AllReadyH.cons (o := { dst := some 15, op := Go.Op.alloc 33, type := 0, pos := "law.go:93", after := #[], guard := none }) rfl (fun K hK => ?_) (AllReadyH.cons (o := { dst := some 17, op := Go.Op.alloc 33, type := 0, pos := "law.go:93", after := #[], guard := none }) rfl (fun K hK => ?_) AllReadyH.nil))
        · go_simp
          go_at_call 15
          refine (RC1.out hb).mono ?_
          rintro _ w6 ⟨rfl, hb6⟩
          go_wp2_with fail
          refine hK.out _ _ trivial (fun hHeld => ?_)
          clear hK K
          try simp only [Act.put, List.setIfInBounds_toArray, List.set_cons_zero, List.set_cons_succ]
          have hn := st1_010.out w6 g16 (hb.trans (hb6.mono hb.size)) l1 (k1.below hb6 k1.lt)
          rw [← HR.out, ← HA0.out] at hn
          simp only [Act.put, List.setIfInBounds_toArray, List.set_cons_zero, List.set_cons_succ] at hn
          exact hn
        · go_simp
          refine hK.out _ _ trivial (fun hHeld => ?_)
          clear hK K
          try simp only [Act.put, List.setIfInBounds_toArray, List.set_cons_zero, List.set_cons_succ]
          have hn := st0_110.out (W.alloc (.cells Z32 33)) W.heap.size g16 (hb.alloc hb.size _) hb.size (Blk.new W _ _) l1 (k1.alloc _) (Nat.ne_of_gt k1.lt)
          rw [← HR.out, ← HA0.out] at hn
          simp only [Act.put, List.setIfInBounds_toArray, List.set_cons_zero, List.set_cons_succ] at hn
          exact hn
        · go_simp
          refine hK.out _ _ trivial (fun hHeld => ?_)
          clear hK K
          try simp only [Act.put, List.setIfInBounds_toArray, List.set_cons_zero, List.set_cons_succ]
          have hn := st0_011.out (W.alloc (.cells Z32 33)) g16 W.heap.size (hb.alloc hb.size _) l1 (k1.alloc _) hb.size (Blk.new W _ _) (Nat.ne_of_lt k1.lt)
          rw [← HR.out, ← HA0.out] at hn
          simp only [Act.put, List.setIfInBounds_toArray, List.set_cons_zero, List.set_cons_succ] at hn
          exact hn)
      have st0_100 : Hid (∀ (W : World) (g15 : Nat), Below W0.heap.size W0 W → W0.heap.size ≤ g15 → Blk W g15 33 Z32 → R 8 #[true, true, true, false, true, true, true, false, true, false, true, false, false, false, false, false] (a0.put (some 15) (.pointer (some ⟨g15, 0, none⟩))) W) := Lib.hid (by
        intro W g15 hb l0 k0
        rw [← HR.out, ← HA0.out]
        try simp only [Act.put, List.setIfInBounds_toArray, List.set_cons_zero, List.set_cons_succ]
        refine wpAnyH_ready (rs := [3, 11, 12]) (by kernel_rfl) (by simp) ?_
        refine AllReadyH.cons (o := { dst := some 53, op := Go.Op.call { callee := Go.Callee.value (Go.Operand.func 15), args := #[Go.Operand.tmp 52], argTypes := #[22] }, type := 33, pos := "law.go:93", after := #[{ on := 2, ground := Go.Ground.data }], guard := none }) rfl (fun K hK => ?_) (AllReadyH.cons (o := { dst := some 16, op := Go.Op.alloc 33, type := 0, pos := "law.go:93", after := #[], guard := none }) rfl (fun K hK => ?_) (AllReadyH.cons (o := { dst := some 17, op := Go.Op.alloc 33, type := 0, pos := "law.go:93", after := #[], guard := none }) rfl (fun K hK => ?_) AllReadyH.nil))
        · go_simp
          go_at_call 15
          refine (RC1.out hb).mono ?_
          rintro _ w6 ⟨rfl, hb6⟩
          go_wp2_with fail
          refine hK.out _ _ trivial (fun hHeld => ?_)
          clear hK K
          try simp only [Act.put, List.setIfInBounds_toArray, List.set_cons_zero, List.set_cons_succ]
          have hn := st1_100.out w6 g15 (hb.trans (hb6.mono hb.size)) l0 (k0.below hb6 k0.lt)
          rw [← HR.out, ← HA0.out] at hn
          simp only [Act.put, List.setIfInBounds_toArray, List.set_cons_zero, List.set_cons_succ] at hn
          exact hn
        · go_simp
          refine hK.out _ _ trivial (fun hHeld => ?_)
          clear hK K
          try simp only [Act.put, List.setIfInBounds_toArray, List.set_cons_zero, List.set_cons_succ]
          have hn := st0_110.out (W.alloc (.cells Z32 33)) g15 W.heap.size (hb.alloc hb.size _) l0 (k0.alloc _) hb.size (Blk.new W _ _) (Nat.ne_of_lt k0.lt)
          rw [← HR.out, ← HA0.out] at hn
          simp only [Act.put, List.setIfInBounds_toArray, List.set_cons_zero, List.set_cons_succ] at hn
          exact hn
        · go_simp
          refine hK.out _ _ trivial (fun hHeld => ?_)
          clear hK K
          try simp only [Act.put, List.setIfInBounds_toArray, List.set_cons_zero, List.set_cons_succ]
          have hn := st0_101.out (W.alloc (.cells Z32 33)) g15 W.heap.size (hb.alloc hb.size _) l0 (k0.alloc _) hb.size (Blk.new W _ _) (Nat.ne_of_lt k0.lt)
          rw [← HR.out, ← HA0.out] at hn
          simp only [Act.put, List.setIfInBounds_toArray, List.set_cons_zero, List.set_cons_succ] at hn
          exact hn)
      have st0_000 : Hid (∀ (W : World), Below W0.heap.size W0 W → R 9 #[true, true, true, false, true, true, true, false, true, false, false, false, false, false, false, false] a0 W) := Lib.hid (by
        intro W  hb 
        rw [← HR.out, ← HA0.out]
        try simp only [Act.put, List.setIfInBounds_toArray, List.set_cons_zero, List.set_cons_succ]
        refine wpAnyH_ready (rs := [3, 10, 11, 12]) (by kernel_rfl) (by simp) ?_
        refine AllReadyH.cons (o := { dst := some 53, op := Go.Op.call { callee := Go.Callee.value (Go.Operand.func 15), args := #[Go.Operand.tmp 52], argTypes := #[22] }, type := 33, pos := "law.go:93", after := #[{ on := 2, ground := Go.Ground.data }], guard := none }) rfl (fun K hK => ?_) (AllReadyH.cons (o := { dst := some 15, op := Go.Op.alloc 33, type := 0, pos := "law.go:93", after := #[], guard := none }) rfl (fun K hK => ?_) (AllReadyH.cons (o := { dst := some 16, op := Go.Op.alloc 33, type := 0, pos := "law.go:93", after := #[], guard := none }) rfl (fun K hK => ?_) (AllReadyH.cons (o := { dst := some 17, op := Go.Op.alloc 33, type := 0, pos := "law.go:93", after := #[], guard := none }) rfl (fun K hK => ?_) AllReadyH.nil)))
        · go_simp
          go_at_call 15
          refine (RC1.out hb).mono ?_
          rintro _ w6 ⟨rfl, hb6⟩
          go_wp2_with fail
          refine hK.out _ _ trivial (fun hHeld => ?_)
          clear hK K
          try simp only [Act.put, List.setIfInBounds_toArray, List.set_cons_zero, List.set_cons_succ]
          have hn := st1_000.out w6 (hb.trans (hb6.mono hb.size))
          rw [← HR.out, ← HA0.out] at hn
          simp only [Act.put, List.setIfInBounds_toArray, List.set_cons_zero, List.set_cons_succ] at hn
          exact hn
        · go_simp
          refine hK.out _ _ trivial (fun hHeld => ?_)
          clear hK K
          try simp only [Act.put, List.setIfInBounds_toArray, List.set_cons_zero, List.set_cons_succ]
          have hn := st0_100.out (W.alloc (.cells Z32 33)) W.heap.size (hb.alloc hb.size _) hb.size (Blk.new W _ _)
          rw [← HR.out, ← HA0.out] at hn
          simp only [Act.put, List.setIfInBounds_toArray, List.set_cons_zero, List.set_cons_succ] at hn
          exact hn
        · go_simp
          refine hK.out _ _ trivial (fun hHeld => ?_)
          clear hK K
          try simp only [Act.put, List.setIfInBounds_toArray, List.set_cons_zero, List.set_cons_succ]
          have hn := st0_010.out (W.alloc (.cells Z32 33)) W.heap.size (hb.alloc hb.size _) hb.size (Blk.new W _ _)
          rw [← HR.out, ← HA0.out] at hn
          simp only [Act.put, List.setIfInBounds_toArray, List.set_cons_zero, List.set_cons_succ] at hn
          exact hn
        · go_simp
          refine hK.out _ _ trivial (fun hHeld => ?_)
          clear hK K
          try simp only [Act.put, List.setIfInBounds_toArray, List.set_cons_zero, List.set_cons_succ]
          have hn := st0_001.out (W.alloc (.cells Z32 33)) W.heap.size (hb.alloc hb.size _) hb.size (Blk.new W _ _)
          rw [← HR.out, ← HA0.out] at hn
          simp only [Act.put, List.setIfInBounds_toArray, List.set_cons_zero, List.set_cons_succ] at hn
          exact hn)
      exact st0_000.out _ HBD.out
    case rest =>
      obtain ⟨g15, g16, g17, Y, rfl, rfl, rfl, hY, hby, ka, kb, kc⟩ := hcut
      subst hY
      have HRA : Hid (Y.rangeAt g15 0 (bs pa)) := Lib.hid (by rw [← HVA.out] at ka; exact ka.range)
      have HRB : Hid (Y.rangeAt g16 0 (bs pb)) := Lib.hid (by rw [← HVB.out] at kb; exact kb.range)
      have HRC : Hid (Y.rangeAt g17 0 (bs pc)) := Lib.hid (by rw [← HVC.out] at kc; exact kc.range)
      have HLA := Lib.hid ka.lt; have HLB := Lib.hid kb.lt; have HLC := Lib.hid kc.lt
      have HX4 := Lib.hid (HX3.out.next hby); have HY4 := Lib.hid (HY3.out.next hby); have HZ4 := Lib.hid (HZ3.out.next hby)
      have HB4 := Lib.hid (HB3.out.trans (hby.mono HB3.out.size))
      clear ka kb kc hby
      have D1 := Lib.hid (gwCheck_any (i : Int) (j : Int) pa pb xs A1 xs.length c1 Y (by omega) HA32.out HAB.out HB32.out rfl HXD.out HX4.out HCX.out (by have := HX6.out; omega) (HT.out.next HB4.out))
      rw [HVA.out, HVB.out, HK1.out] at D1
      have wx6 := HX6.out; have wy6 := HY6.out; have wz6 := HZ6.out
      obtain ⟨nx, hnx⟩ : ∃ nx, xs.length = nx := ⟨_, rfl⟩
      obtain ⟨ny, hny⟩ : ∃ ny, ys.length = ny := ⟨_, rfl⟩
      obtain ⟨nz, hnz⟩ : ∃ nz, zs.length = nz := ⟨_, rfl⟩
      rw [hnx] at wx6 D1 ⊢
      rw [hny] at wy6 ⊢
      rw [hnz] at wz6 ⊢
      have HNX := Lib.hid hnx; have HNY := Lib.hid hny; have HNZ := Lib.hid hnz
      clear hnx hny hnz
      go_wp2_with (first
        | refine wpQ_loadw (by rfl) 33 (.tmp 15) rfl g15 0 rfl (bs pa) VA HVA.out _ HRA.out Tryd.underlying33 rfl HSA.out ?_
        | refine wpQ_loadw (by rfl) 33 (.tmp 16) rfl g16 0 rfl (bs pb) VB HVB.out _ HRB.out Tryd.underlying33 rfl HSB.out ?_)
      refine D1.out.mono ?_
      rintro _ w5 ⟨rfl, hb5⟩
      have HB5 := Lib.hid (HB4.out.trans (hb5.mono HB4.out.size))
      have HRB5 := Lib.hid (range_next HRB.out HLB.out hb5); have HRC5 := Lib.hid (range_next HRC.out HLC.out hb5); have HRA5 := Lib.hid (range_next HRA.out HLA.out hb5)
      have HY5 := Lib.hid (HY4.out.next hb5); have HZ5 := Lib.hid (HZ4.out.next hb5)
      have HLA5 : Hid (g15 < w5.heap.size) := Lib.hid (Nat.lt_of_lt_of_le HLA.out hb5.size)
      have HLC5 : Hid (g17 < w5.heap.size) := Lib.hid (Nat.lt_of_lt_of_le HLC.out hb5.size)
      have D2 := Lib.hid (gwCheck_any (j : Int) (n : Int) pb pc ys A2 ys.length c2 w5 (by omega) HB32.out HBB.out HC32.out rfl HYD.out HY5.out HCY.out (by have := HY6.out; omega) (HT.out.next HB5.out))
      rw [HVB.out, HVC.out, HK2.out, HNY.out] at D2
      clear hb5
      go_wp2_with (first
        | refine wpQ_loadw (by rfl) 33 (.tmp 16) rfl g16 0 rfl (bs pb) VB HVB.out _ HRB5.out Tryd.underlying33 rfl HSB.out ?_
        | refine wpQ_loadw (by rfl) 33 (.tmp 17) rfl g17 0 rfl (bs pc) VC HVC.out _ HRC5.out Tryd.underlying33 rfl HSC.out ?_)
      refine D2.out.mono ?_
      rintro _ w6 ⟨rfl, hb6⟩
      have HB6 := Lib.hid (HB5.out.trans (hb6.mono HB5.out.size))
      have HRA6 := Lib.hid (range_next HRA5.out HLA5.out hb6); have HRC6 := Lib.hid (range_next HRC5.out HLC5.out hb6)
      have HZ6' := Lib.hid (HZ5.out.next hb6)
      have D3 := Lib.hid (gwCheck_any (i : Int) (n : Int) pa pc zs A3 zs.length c3 w6 (by omega) HA32.out HAB.out HC32.out rfl HZD.out HZ6'.out HCZ.out (by have := HZ6.out; omega) (HT.out.next HB6.out))
      rw [HVA.out, HVC.out, HK3.out, HNZ.out] at D3
      clear hb6
      go_wp2_with (first
        | refine wpQ_loadw (by rfl) 33 (.tmp 15) rfl g15 0 rfl (bs pa) VA HVA.out _ HRA6.out Tryd.underlying33 rfl HSA.out ?_
        | refine wpQ_loadw (by rfl) 33 (.tmp 17) rfl g17 0 rfl (bs pc) VC HVC.out _ HRC6.out Tryd.underlying33 rfl HSC.out ?_)
      refine D3.out.mono ?_
      rintro _ w7 ⟨rfl, hb7⟩
      have HB7 := Lib.hid (HB6.out.trans (hb7.mono HB6.out.size))
      clear hb7
      obtain ⟨M, hM, hmx⟩ := run_max3 (P := Tryd.prog) #[3, 3, 3] 3 (nx : Int) (ny : Int) (nz : Int) 11 (by omega) (by omega) (by omega)
      go_wp2_with fail
      refine (HAW.out _ HB7.out).mono ?_
      rintro _ w8 ⟨rfl, hb8⟩
      have HB8 := Lib.hid (HB7.out.trans (hb8.mono HB7.out.size))
      clear hb8
      go_wp2_with fail
      go_ret
      exact ⟨rfl, HB8.out⟩
end Go.Proofs.YtfpbijnlmlaloaaDoor
