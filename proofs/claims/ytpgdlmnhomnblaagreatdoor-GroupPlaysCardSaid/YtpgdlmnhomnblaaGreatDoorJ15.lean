import Derived.Shelf.SortM.Plain
import Derived.Shelf.SortM.SortNone
import Derived.Ground.SlgmProg
import Derived.Test.YtpgdlmnhomnblaaGreatDoorProg
import Derived.Sort.OwnSortedInts
import Derived.Test.YtpgdlmnhomnblaaGreatDoorJ10
import Derived.Maps.OwnSet
import Derived.Test.YtpgdlmnhomnblaaGreatDoorJ5
import Derived.Test.YtpgdlmnhomnblaaGreatDoorJ11
import Derived.Test.YtpgdlmnhomnblaaGreatDoorJ6
import Derived.Test.YtpgdlmnhomnblaaGreatDoorJ13
import Derived.Test.YtpgdlmnhomnblaaGreatDoorJ14
namespace Go.Proofs.YtpgdlmnhomnblaaGreatDoor
open Go.RowKit Go.Sort Go.Shelf
def so_sort177_ren : Go.Shelf.Ren := ⟨fun | 5 => 177 | 8 => 205 | 7 => 204 | 19 => 227 | 20 => 171 | 10 => 218 | 11 => 219 | 12 => 220 | 13 => 221 | 14 => 222 | 15 => 223 | 16 => 224 | 17 => 225 | 18 => 226 | 30 => 243 | 31 => 244 | 32 => 245 | 33 => 246 | 34 => 247 | 35 => 148 | 40 => 252 | n => n, fun | 23 => 142 | 25 => 2 | 3 => 3 | 32 => 192 | 22 => 142 | 0 => 0 | 44 => 129 | 46 => 131 | 4 => 4 | 36 => 255 | 35 => 254 | 41 => 222 | 5 => 5 | 9 => 9 | 53 => 285 | 57 => 288 | 63 => 293 | 64 => 294 | n => n, fun | n => n⟩
theorem so_sort177 : Go.Proofs.SlLaysM.n5 Tryz.prog so_sort177_ren := {
  mixed := by kernel_rfl
  f5 := ⟨Tryz.f177.name, by decide, Tryz.func177.trans (congrArg some (by kernel_rfl))⟩
  f7 := ⟨Tryz.f204.name, by decide, Tryz.func204.trans (congrArg some (by kernel_rfl))⟩
  f8 := Tryz.func205.trans (congrArg some (by kernel_rfl))
  f10 := ⟨Tryz.f218.name, by decide, Tryz.func218.trans (congrArg some (by kernel_rfl))⟩
  f11 := ⟨Tryz.f219.name, by decide, Tryz.func219.trans (congrArg some (by kernel_rfl))⟩
  f12 := ⟨Tryz.f220.name, by decide, Tryz.func220.trans (congrArg some (by kernel_rfl))⟩
  f13 := ⟨Tryz.f221.name, by decide, Tryz.func221.trans (congrArg some (by kernel_rfl))⟩
  f14 := ⟨Tryz.f222.name, by decide, Tryz.func222.trans (congrArg some (by kernel_rfl))⟩
  f15 := ⟨Tryz.f223.name, by decide, Tryz.func223.trans (congrArg some (by kernel_rfl))⟩
  f16 := ⟨Tryz.f224.name, by decide, Tryz.func224.trans (congrArg some (by kernel_rfl))⟩
  f17 := ⟨Tryz.f225.name, by decide, Tryz.func225.trans (congrArg some (by kernel_rfl))⟩
  f18 := ⟨Tryz.f226.name, by decide, Tryz.func226.trans (congrArg some (by kernel_rfl))⟩
  f19 := Tryz.func227.trans (congrArg some (by kernel_rfl))
  f20 := Tryz.func171.trans (congrArg some (by kernel_rfl))
  f30 := ⟨Tryz.f243.name, by decide, Tryz.func243.trans (congrArg some (by kernel_rfl))⟩
  f31 := Tryz.func244.trans (congrArg some (by kernel_rfl))
  f32 := Tryz.func245.trans (congrArg some (by kernel_rfl))
  f33 := ⟨Tryz.f246.name, by decide, Tryz.func246.trans (congrArg some (by kernel_rfl))⟩
  f34 := ⟨Tryz.f247.name, by decide, Tryz.func247.trans (congrArg some (by kernel_rfl))⟩
  f35 := ⟨Tryz.f148.name, by decide, Tryz.func148.trans (congrArg some (by kernel_rfl))⟩
  f40 := ⟨Tryz.f252.name, by decide, Tryz.func252.trans (congrArg some (by kernel_rfl))⟩
  t0 := Tryz.underlying0
  a0 := Tryz.isAgg0
  z0 := Tryz.sizeOf0
  v0 := Tryz.zeroValue0
  t3 := Tryz.underlying3
  a3 := Tryz.isAgg3
  z3 := Tryz.sizeOf3
  v3 := Tryz.zeroValue3
  t4 := Tryz.underlying4
  a4 := Tryz.isAgg4
  z4 := Tryz.sizeOf4
  v4 := Tryz.zeroValue4
  t5 := Tryz.underlying5
  a5 := Tryz.isAgg5
  z5 := Tryz.sizeOf5
  v5 := Tryz.zeroValue5
  t9 := Tryz.underlying9
  a9 := Tryz.isAgg9
  z9 := Tryz.sizeOf9
  v9 := Tryz.zeroValue9
  t22 := Tryz.underlying142
  a22 := Tryz.isAgg142
  z22 := Tryz.sizeOf142
  v22 := Tryz.zeroValue142
  t23 := Tryz.underlying142
  a23 := Tryz.isAgg142
  z23 := Tryz.sizeOf142
  v23 := Tryz.zeroValue142
  t25 := Tryz.underlying2
  a25 := Tryz.isAgg2
  z25 := Tryz.sizeOf2
  v25 := Tryz.zeroValue2
  t32 := Tryz.underlying192
  a32 := Tryz.isAgg192
  z32 := Tryz.sizeOf192
  v32 := Tryz.zeroValue192
  t35 := Tryz.underlying254
  a35 := Tryz.isAgg254
  z35 := Tryz.sizeOf254
  v35 := Tryz.zeroValue254
  t36 := Tryz.underlying255
  a36 := Tryz.isAgg255
  z36 := Tryz.sizeOf255
  v36 := Tryz.zeroValue255
  t41 := Tryz.underlying222
  a41 := Tryz.isAgg222
  z41 := Tryz.sizeOf222
  v41 := Tryz.zeroValue222
  t44 := Tryz.underlying129
  a44 := Tryz.isAgg129
  z44 := Tryz.sizeOf129
  v44 := Tryz.zeroValue129
  t46 := Tryz.underlying131
  a46 := Tryz.isAgg131
  z46 := Tryz.sizeOf131
  v46 := Tryz.zeroValue131
  t53 := Tryz.underlying285
  a53 := Tryz.isAgg285
  z53 := Tryz.sizeOf285
  v53 := Tryz.zeroValue285
  t57 := Tryz.underlying288
  a57 := Tryz.isAgg288
  z57 := Tryz.sizeOf288
  v57 := Tryz.zeroValue288
  t63 := Tryz.underlying293
  a63 := Tryz.isAgg293
  z63 := Tryz.sizeOf293
  v63 := Tryz.zeroValue293
  t64 := Tryz.underlying294
  a64 := Tryz.isAgg294
  z64 := Tryz.sizeOf294
  v64 := Tryz.zeroValue294 }
theorem sort_row (blk off cap : Nat) (zs : List Int) (w : World) (hH : Holds (Value.int .i64) w blk off zs.toArray) (hblk : blk < w.heap.size) (hsz : zs.length < 4611686018427387904) :
    Calls Tryz.prog 177 #[.slice (some ⟨blk, off, none⟩) zs.length cap] w fun e w' => e = .returned (.tuple #[]) ∧ ∃ n os, w' = grow (putRow (Value.int .i64) (Sort.ahead w n) blk off (zs.mergeSort fun x y => decide (x ≤ y)).toArray) os := AnyM.slices_Sort_int so_sort177 blk off cap zs w hH hblk hsz
theorem sort_none (p : Option Addr) (cap : Nat) (w : World) : Calls Tryz.prog 177 #[.slice p 0 cap] w fun e w' => e = .returned (.tuple #[]) ∧ w' = w := AnyM.slices_Sort_int_none so_sort177 p cap w
def so_sort182_ren : Go.Shelf.Ren := ⟨fun | 6 => 182 | 8 => 205 | 9 => 210 | 19 => 227 | 20 => 171 | 21 => 231 | 22 => 232 | 23 => 233 | 24 => 234 | 25 => 235 | 26 => 236 | 27 => 237 | 28 => 238 | 29 => 239 | 36 => 249 | 31 => 244 | 32 => 245 | 37 => 250 | 38 => 251 | 39 => 149 | 41 => 253 | n => n, fun | 27 => 175 | 29 => 9 | 3 => 3 | 32 => 192 | 26 => 175 | 0 => 0 | 44 => 129 | 46 => 131 | 4 => 4 | 36 => 255 | 35 => 254 | 41 => 222 | 5 => 5 | 9 => 9 | 53 => 285 | 57 => 288 | 63 => 293 | 64 => 294 | n => n, fun | n => n⟩
theorem so_sort182 : Go.Proofs.SlLaysM.n6 Tryz.prog so_sort182_ren := {
  mixed := by kernel_rfl
  f6 := ⟨Tryz.f182.name, by decide, Tryz.func182.trans (congrArg some (by kernel_rfl))⟩
  f8 := Tryz.func205.trans (congrArg some (by kernel_rfl))
  f9 := ⟨Tryz.f210.name, by decide, Tryz.func210.trans (congrArg some (by kernel_rfl))⟩
  f19 := Tryz.func227.trans (congrArg some (by kernel_rfl))
  f20 := Tryz.func171.trans (congrArg some (by kernel_rfl))
  f21 := ⟨Tryz.f231.name, by decide, Tryz.func231.trans (congrArg some (by kernel_rfl))⟩
  f22 := ⟨Tryz.f232.name, by decide, Tryz.func232.trans (congrArg some (by kernel_rfl))⟩
  f23 := ⟨Tryz.f233.name, by decide, Tryz.func233.trans (congrArg some (by kernel_rfl))⟩
  f24 := ⟨Tryz.f234.name, by decide, Tryz.func234.trans (congrArg some (by kernel_rfl))⟩
  f25 := ⟨Tryz.f235.name, by decide, Tryz.func235.trans (congrArg some (by kernel_rfl))⟩
  f26 := ⟨Tryz.f236.name, by decide, Tryz.func236.trans (congrArg some (by kernel_rfl))⟩
  f27 := ⟨Tryz.f237.name, by decide, Tryz.func237.trans (congrArg some (by kernel_rfl))⟩
  f28 := ⟨Tryz.f238.name, by decide, Tryz.func238.trans (congrArg some (by kernel_rfl))⟩
  f29 := ⟨Tryz.f239.name, by decide, Tryz.func239.trans (congrArg some (by kernel_rfl))⟩
  f31 := Tryz.func244.trans (congrArg some (by kernel_rfl))
  f32 := Tryz.func245.trans (congrArg some (by kernel_rfl))
  f36 := ⟨Tryz.f249.name, by decide, Tryz.func249.trans (congrArg some (by kernel_rfl))⟩
  f37 := ⟨Tryz.f250.name, by decide, Tryz.func250.trans (congrArg some (by kernel_rfl))⟩
  f38 := ⟨Tryz.f251.name, by decide, Tryz.func251.trans (congrArg some (by kernel_rfl))⟩
  f39 := ⟨Tryz.f149.name, by decide, Tryz.func149.trans (congrArg some (by kernel_rfl))⟩
  f41 := ⟨Tryz.f253.name, by decide, Tryz.func253.trans (congrArg some (by kernel_rfl))⟩
  t0 := Tryz.underlying0
  a0 := Tryz.isAgg0
  z0 := Tryz.sizeOf0
  v0 := Tryz.zeroValue0
  t3 := Tryz.underlying3
  a3 := Tryz.isAgg3
  z3 := Tryz.sizeOf3
  v3 := Tryz.zeroValue3
  t4 := Tryz.underlying4
  a4 := Tryz.isAgg4
  z4 := Tryz.sizeOf4
  v4 := Tryz.zeroValue4
  t5 := Tryz.underlying5
  a5 := Tryz.isAgg5
  z5 := Tryz.sizeOf5
  v5 := Tryz.zeroValue5
  t9 := Tryz.underlying9
  a9 := Tryz.isAgg9
  z9 := Tryz.sizeOf9
  v9 := Tryz.zeroValue9
  t26 := Tryz.underlying175
  a26 := Tryz.isAgg175
  z26 := Tryz.sizeOf175
  v26 := Tryz.zeroValue175
  t27 := Tryz.underlying175
  a27 := Tryz.isAgg175
  z27 := Tryz.sizeOf175
  v27 := Tryz.zeroValue175
  t29 := Tryz.underlying9
  a29 := Tryz.isAgg9
  z29 := Tryz.sizeOf9
  v29 := Tryz.zeroValue9
  t32 := Tryz.underlying192
  a32 := Tryz.isAgg192
  z32 := Tryz.sizeOf192
  v32 := Tryz.zeroValue192
  t35 := Tryz.underlying254
  a35 := Tryz.isAgg254
  z35 := Tryz.sizeOf254
  v35 := Tryz.zeroValue254
  t36 := Tryz.underlying255
  a36 := Tryz.isAgg255
  z36 := Tryz.sizeOf255
  v36 := Tryz.zeroValue255
  t41 := Tryz.underlying222
  a41 := Tryz.isAgg222
  z41 := Tryz.sizeOf222
  v41 := Tryz.zeroValue222
  t44 := Tryz.underlying129
  a44 := Tryz.isAgg129
  z44 := Tryz.sizeOf129
  v44 := Tryz.zeroValue129
  t46 := Tryz.underlying131
  a46 := Tryz.isAgg131
  z46 := Tryz.sizeOf131
  v46 := Tryz.zeroValue131
  t53 := Tryz.underlying285
  a53 := Tryz.isAgg285
  z53 := Tryz.sizeOf285
  v53 := Tryz.zeroValue285
  t57 := Tryz.underlying288
  a57 := Tryz.isAgg288
  z57 := Tryz.sizeOf288
  v57 := Tryz.zeroValue288
  t63 := Tryz.underlying293
  a63 := Tryz.isAgg293
  z63 := Tryz.sizeOf293
  v63 := Tryz.zeroValue293
  t64 := Tryz.underlying294
  a64 := Tryz.isAgg294
  z64 := Tryz.sizeOf294
  v64 := Tryz.zeroValue294 }
theorem sort_row_str (blk off cap : Nat) (ss : List (List UInt8)) (w : World) (hH : Holds (encStr) w blk off ss.toArray) (hblk : blk < w.heap.size) (hsz : ss.length < 4611686018427387904) :
    Calls Tryz.prog 182 #[.slice (some ⟨blk, off, none⟩) ss.length cap] w fun e w' => e = .returned (.tuple #[]) ∧ ∃ n os, w' = grow (putRow (encStr) (Sort.ahead w n) blk off (ss.mergeSort fun x y => decide (x ≤ y)).toArray) os := AnyM.slices_Sort_string so_sort182 blk off cap ss w hH hblk hsz
theorem sort_none_str (p : Option Addr) (cap : Nat) (w : World) : Calls Tryz.prog 182 #[.slice p 0 cap] w fun e w' => e = .returned (.tuple #[]) ∧ w' = w := AnyM.slices_Sort_string_none so_sort182 p cap w
end Go.Proofs.YtpgdlmnhomnblaaGreatDoor
namespace Go.Proofs.YtpgdlmnhomnblaaGreatDoor
open Go.RowKit Go.Sort
set_option linter.unusedVariables false
set_option linter.unusedSimpArgs false
set_option maxRecDepth 100000
theorem sort_own (base n : Nat) (v : Value) (l : List Int) (w : World) (hown : w.ownsRow base 2 1 v n (zs l)) (hl : l.length = n) (hn : n < 4611686018427387904) :
    Calls Tryz.prog 177 #[v] w fun e w' => e = .returned (.tuple #[]) ∧ w'.ownsRow base 2 1 v n (zs (l.mergeSort fun x y => decide (x ≤ y))) ∧ w.grownBy w' v.ownBlock := by
  subst hl
  have hz : ∀ m : List Int, m.map (Value.int .i64) = zs m := fun m => rfl
  rcases hown.2 with ⟨rfl, hx⟩ | ⟨g, cap, cur, rfl, hbase, hb, h1, h2, h3, h4⟩
  · have hl0 : l = [] := by
      have := hown.1
      rw [hx] at this
      cases l with
      | nil => rfl
      | cons y m => simp [zs] at hx
    subst hl0
    refine (sort_none none 0 w).mono ?_
    rintro e w' ⟨rfl, rfl⟩
    exact ⟨rfl, by simpa [List.mergeSort] using hown, World.grownBy.refl _ _⟩
  · have h4' : cur.toList.take l.length = l.map (Value.int .i64) := by rw [hz]; simpa using h4
    refine (sort_row g 0 cap l w (holds_of_blockI hb h4') (Array.getElem?_eq_some_iff.1 hb).1 hn).mono ?_
    rintro e w' ⟨rfl, m, os, rfl⟩
    refine ⟨rfl, ?_, grownBy_sortedI _⟩
    rw [← hz]
    exact ownsRow_sortedI (by simp) hbase hb h1 h2 h3
end Go.Proofs.YtpgdlmnhomnblaaGreatDoor
namespace Go.Proofs.YtpgdlmnhomnblaaGreatDoor
open Go.RowKit Go.Maps
set_option linter.unusedVariables false
set_option linter.unusedSimpArgs false
set_option maxRecDepth 100000
theorem law_i64 : Keyed Tryz.prog 2 := int_keyed Tryz.underlying2
theorem wf_in {z : Int} (h : In64 z) : (Lit.int .i64 z).wf = true := by unfold In64 at h; exact WalkArith.wf_i64 (by omega)
theorem key_in {z : Int} (h : In64 z) : keyOf Tryz.prog 2 (.int .i64 z) = some (.int .i64 z) := keyOf_int_mk Tryz.underlying2 (wf_in h)
theorem zero_u64 (w : World) : (zeroValue 131).run Tryz.prog w = .ok (.int .u64 0) w := by kernel_rfl
theorem elem_u64 (k : Nat) (h : k < 18446744073709551616) : plainElem (H := Unit) Tryz.prog 131 (.int .u64 (k : Int)) = some (.lit (.int .u64 (k : Int)), []) :=
  plainElem_int Tryz.underlying131 (WalkArith.wf_u64 (by omega))
def MapAt (w : World) (b m : Nat) (D : DataW Unit) : Prop := w.ownsMap Tryz.prog 2 (plainElem Tryz.prog 131) b m D
def AtD (D : DataW Unit) (L : List Int) (k : Nat) : Prop := ∀ (j : Nat) (z : Int), j < k → L[j]? = some z → D.atKey (.int .i64 z) (.lit (.int .u64 0)) = .lit (.int .u64 (j : Int))
def HasD (D : DataW Unit) (l : List Int) : Prop := ∀ z : Int, Maps.has D (.int .i64 z) = decide (z ∈ l)
theorem hasD_nil : HasD (.map []) [] := by intro z; simp [Maps.has]
theorem hasD_old {D : DataW Unit} {l : List Int} {z : Int} (h : HasD D l) (hz : z ∈ l) : HasD D (l ++ [z]) := by
  intro x
  rw [h x]
  apply decide_eq_decide.2
  constructor
  · intro hx; exact List.mem_append_left _ hx
  · intro hx
    rcases List.mem_append.1 hx with hx | hx
    · exact hx
    · rw [List.mem_singleton] at hx; exact hx ▸ hz
theorem isKey_i64 (z : Int) : WideAt.IsKeyLit (.int .i64 z) := by simp [WideAt.IsKeyLit]
theorem hasD_put {D : DataW Unit} {l : List Int} {z : Int} (h : HasD D l) (hD : IsMap D) (d : DataW Unit) : HasD (D.put (.int .i64 z) d) (l ++ [z]) := by
  intro x
  by_cases hx : x = z
  · subst hx
    rw [has_put_same hD (isKey_i64 x)]
    simp
  · rw [has_put_other (by simpa using hx), h x]
    apply decide_eq_decide.2
    simp [hx]
theorem atD_put {D : DataW Unit} {L : List Int} {k : Nat} {z : Int} (h : AtD D L k) (hL : Rise L) (hz : L[k]? = some z) (hD : IsMap D) : AtD (D.put (.int .i64 z) (.lit (.int .u64 (k : Int)))) L (k + 1) := by
  intro j y hj hy
  by_cases hjk : j = k
  · subst hjk
    rw [hz] at hy
    injection hy with hy
    subst hy
    exact atKey_put_same hD (isKey_i64 z) _ _
  · have hne : y ≠ z := fun e => hjk (rise_inj hL hy (e ▸ hz))
    rw [atKey_put_other (by simpa using hne)]
    exact h j y (by omega) hy
def Listed (w : World) (l : List Int) (e : Ending) (w' : World) : Prop :=
  ∃ v b m D, e = .returned (.tuple #[v, .map (some b)]) ∧ w'.ownsRow w.heap.size 2 1 v (lstD l).length (zs (lstD l)) ∧ MapAt w' b m D ∧ AtD D (lstD l) (lstD l).length ∧ Below w.heap.size w w'
set_option maxHeartbeats 4000000 in
theorem listed_any (A : Option Addr) (n c : Nat) (l : List Int) (w : World) (hr : Reads w w.heap.size 1 A n (zs l)) (hl : ∀ z ∈ l, In64 z) (hn : n ≤ 4398046511104) :
    Calls Tryz.prog 125 #[.slice A n c] w (Listed w l) := by
  obtain ⟨i1, hi1, hy0, hy1, hy2⟩ := info_parts info_i64
  have e1 : l.length = n := by have := hr.1; rw [zs_length] at this; omega
  have hmm := @run_makeMap Tryz.prog
  have E1 := Lib.hid e1
  clear e1
  have hm0 : MapAt (w.alloc (.map #[] 0)) w.heap.size 0 (.map []) := World.ownsMap_made _ _ _ _
  have hb0 : Below w.heap.size w (w.alloc (.map #[] 0)) := (Below.refl _ _).alloc (Nat.le_refl _) _
  have hs0 : w.heap.size + 1 ≤ (w.alloc (.map #[] 0)).heap.size := by simp
  go_enter Tryz.func125, Tryz.ntmps125
  go_wp2_with fail
  go_loopw [4, 15] (fun s4 s15 wr => ∃ (k m : Nat) (D : DataW Unit), k ≤ n ∧ m ≤ k ∧ s15 = .int .i64 (k : Int) ∧ MapAt wr w.heap.size m D ∧ HasD D (l.take k) ∧ wr.ownsRow (w.heap.size + 1) 2 1 s4 (uqD (l.take k)).length (zs (uqD (l.take k))) ∧ Below w.heap.size w wr ∧ w.heap.size + 1 ≤ wr.heap.size) (fun _ i _ => n - (intOf i).toNat)
  case atStart => exact ⟨0, 0, _, Nat.zero_le _, Nat.le_refl _, rfl, hm0, hasD_nil, own_nil _ _ _ _, hb0, hs0⟩
  case round =>
    clear hm0 hb0 hs0
    obtain ⟨k, m, D, hk, hm, rfl, hmap, hhas, hown, hb, hs⟩ := hrel
    have hul : (uqD (l.take k)).length ≤ k := by have := uqD_length (l.take k); rw [List.length_take] at this; omega
    by_cases hlt : k < n
    · obtain ⟨ad, u, rfl, _, hu, hc0⟩ := (hr.below hb).at_ hlt
      obtain ⟨z, hz, rfl⟩ := zs_at hu
      have hzin := hl z (List.mem_of_getElem? hz)
      have HKEY := Lib.hid (key_in hzin)
      have HT := Lib.hid (take_snoc hz)
      have HAS := Lib.hid (hhas z)
      clear hu hz
      by_cases hold : z ∈ l.take k
      · have HO := Lib.hid (hasD_old hhas hold)
        have HU := Lib.hid (uqD_snoc (l.take k) z)
        have hd : Maps.has D (.int .i64 z) = true := by rw [HAS.out]; simpa using hold
        have HH := Lib.hid hd; have HOLD := Lib.hid hold
        clear hd hold hhas
        go_wp2_with (first | (at_lookup; refine wpList_lookup_own_ok_int _ rfl _ _ 165 rfl 2 131 .u64 law_i64 Tryz.underlying165 Tryz.underlying131 (zero_u64 _) w.heap.size m D rfl hmap _ _ rfl HKEY.out ?_; intro c1 hat hwc; rw [HH.out]) | fail)
        go_round
        case rel =>
          refine ⟨k + 1, m, D, by omega, by omega, by go_num, hmap, by rw [HT.out]; exact HO.out, ?_, hb, hs⟩
          rw [HT.out, HU.out, if_pos ((uqD_mem _ _).2 HOLD.out)]
          exact hown
        case measure => simp [intOf]; omega
      · have HO := Lib.hid (hasD_put (z := z) hhas (World.ownsMap.isMap hmap) (.lit (.int .u64 0)))
        have HU := Lib.hid (uqD_snoc (l.take k) z)
        have hd : Maps.has D (.int .i64 z) = false := by rw [HAS.out]; simpa using hold
        have HH := Lib.hid hd; have HOLD := Lib.hid hold
        have HV := Lib.hid (elem_u64 0 (by omega))
        clear hd hold hhas
        go_wp2_with (first
          | (at_lookup; refine wpList_lookup_own_ok_int _ rfl _ _ 165 rfl 2 131 .u64 law_i64 Tryz.underlying165 Tryz.underlying131 (zero_u64 _) w.heap.size m D rfl hmap _ _ rfl HKEY.out ?_; intro c1 hat hwc; rw [HH.out])
          | (at_mapUpdate; refine wpList_mapUpdate_own _ rfl _ _ _ 165 rfl 2 131 law_i64 Tryz.underlying165 _ w.heap.size m D rfl hmap (by unfold maxLen; omega) _ _ _ rfl rfl HKEY.out _ [] HV.out ?_; intro w1 hmap1 hgrow1)
          | (at_builtin
             refine wpList_append_any _ rfl (.tmp 29) (.tmp 31) _ rfl (w.heap.size + 1) 2 i1 _ 1 8 Tryz.underlying142 hi1 hy0 hy1 hy2 rfl (by omega) u4 (uqD (l.take k)).length (zs (uqD (l.take k))) rfl
               ((own_before hown hgrow1 (fun r hr => by injection hr with hr; omega)).alloc _) (w1.heap.size + 1) (some ⟨w1.heap.size, 0, none⟩) 1 1 [.int .i64 z] rfl (Reads.new w1 _ _) (one_int _ _) (by unfold maxLen; omega) (by omega) (by have := hgrow1.size; simp; omega) ?_
             intro v4 w4 hown4 hg4 hat4)
          | fail)
        go_round
        case rel =>
          have hne : (some w.heap.size : Option Nat) ≠ u4.ownBlock := fun e => by have := (hown.lt _ e.symm).1; omega
          have hb1 : Below w.heap.size w w1 := hb.grown hgrow1 hb.size (fun j hj => by injection hj with hj; omega)
          refine ⟨k + 1, m + 1, _, by omega, by omega, by go_num, (World.ownsMap.alloc hmap1 _).kept hg4 hne, by rw [HT.out]; exact HO.out, ?_, (hb1.alloc hb1.size _).grown hg4 (by have := hb1.size; simp; omega) (fun j hj => by have := (hown.lt j hj).1; omega), ?_⟩
          · rw [HT.out, HU.out, if_neg (fun h => HOLD.out ((uqD_mem _ _).1 h)), ← zs_snoc, List.length_append, List.length_singleton]
            exact hown4
          · have h1 := hgrow1.size; have h2 := hg4.size; simp at h2; omega
        case measure => simp [intOf]; omega
    · obtain rfl : k = n := by omega
      rw [List.take_of_length_le (by rw [E1.out]; exact Nat.le_refl _)] at hown hul
      have HS := Lib.hid (sort_uqD l)
      have HSL : Hid ((uqD l).length = (lstD l).length) := Lib.hid (by rw [← sort_uqD]; simp)
      clear hhas
      go_wp2_with fail
      refine (sort_own (w.heap.size + 1) (uqD l).length u4 (uqD l) wr hown rfl (by omega)).mono ?_
      rintro e w2 ⟨rfl, hown2, hg2⟩
      have hne : (some w.heap.size : Option Nat) ≠ u4.ownBlock := fun e => by have := (hown.lt _ e.symm).1; omega
      have hmap2 : MapAt w2 w.heap.size m D := World.ownsMap.kept hmap hg2 hne
      have hb2 : Below w.heap.size w w2 := hb.grown hg2 hb.size (fun j hj => by have := (hown.lt j hj).1; omega)
      rw [HS.out, HSL.out] at hown2
      rw [HSL.out] at hul
      obtain ⟨L, hL⟩ : ∃ L, L = lstD l := ⟨_, rfl⟩
      rw [← hL] at hown2 hul
      obtain ⟨N, hN⟩ : ∃ N, N = L.length := ⟨_, rfl⟩
      rw [← hN] at hown2 hul
      have HL := Lib.hid hL; have HN := Lib.hid hN
      have hin : ∀ z ∈ L, In64 z := by rw [hL]; exact lstD_in hl
      have hri : Hid (Rise L) := Lib.hid (by rw [hL]; exact lstD_rise l)
      clear hL hN hne hg2 hmap hown hb hs
      obtain ⟨A2, c2, rfl, hc2, hm2, r2⟩ := own_slice hown2
      clear r2
      go_wp2_with fail
      go_loopw [38] (fun s38 wx => ∃ (i m2 : Nat) (D2 : DataW Unit), i ≤ N ∧ m2 ≤ k + i ∧ s38 = .int .i64 (i : Int) ∧ MapAt wx w.heap.size m2 D2 ∧ AtD D2 L i ∧ wx.ownsRow (w.heap.size + 1) 2 1 (.slice A2 N c2) N (zs L) ∧ Below w.heap.size w wx) (fun i _ => N - (intOf i).toNat)
      case atStart => exact ⟨0, m, D, Nat.zero_le _, by omega, rfl, hmap2, fun j z hj => absurd hj (by omega), hown2, hb2⟩
      case round =>
        clear hmap2 hown2 hb2
        obtain ⟨i, m2, D2, hi, hm3, rfl, hmap3, hat3, hown3, hb3⟩ := hrel
        by_cases hlt2 : i < N
        · obtain ⟨ad, u, rfl, _, hu, hc0⟩ := (Reads.of_own hown3).at_ hlt2
          obtain ⟨z, hz, rfl⟩ := zs_at hu
          have HKEY := Lib.hid (key_in (hin z (List.mem_of_getElem? hz)))
          have HV := Lib.hid (elem_u64 i (by omega))
          have HA := Lib.hid (atD_put hat3 hri.out hz (World.ownsMap.isMap hmap3))
          clear hu hz hat3
          go_wp2_with (first
            | (at_mapUpdate; refine wpList_mapUpdate_own _ rfl _ _ _ 165 rfl 2 131 law_i64 Tryz.underlying165 _ w.heap.size m2 D2 rfl hmap3 (by unfold maxLen; omega) _ _ _ rfl rfl HKEY.out _ [] HV.out ?_; intro w1 hmap4 hgrow4)
            | fail)
          go_round
          case rel =>
            exact ⟨i + 1, m2 + 1, _, by omega, by omega, by go_num, hmap4, HA.out, own_before hown3 hgrow4 (fun r hr => by injection hr with hr; omega), hb3.grown hgrow4 hb3.size (fun j hj => by injection hj with hj; omega)⟩
          case measure => simp [intOf]; omega
        · obtain rfl : i = N := by omega
          go_wp2_with fail
          go_ret2
          refine ⟨_, _, m2, D2, rfl, ?_, hmap3, ?_, hb3⟩
          · rw [← HL.out, ← HN.out]; exact own_base hown3 (by omega)
          · rw [← HL.out, ← HN.out]; exact hat3
end Go.Proofs.YtpgdlmnhomnblaaGreatDoor
namespace Go.Proofs.YtpgdlmnhomnblaaGreatDoor
open Go.RowKit
set_option linter.unusedVariables false
set_option linter.unusedSimpArgs false
set_option maxRecDepth 100000
set_option maxHeartbeats 600000 in
theorem putL_any (A : Option Addr) (N c : Nat) (L : List Int) (w : World) (hr : Reads w w.heap.size 1 A N (zs L)) (hL : Rise L) (hl : ∀ z ∈ L, In64 z) (hn : N ≤ 65536) :
    Calls Tryz.prog 128 #[.slice A N c] w (New w (bs (hdD L)) (hdD L).length) := by
  obtain ⟨i0, hi0, hz0, hz1, hz2⟩ := info_parts info_u8
  have e1 : L.length = N := by have := hr.1; rw [zs_length] at this; omega
  have E1 := Lib.hid e1
  have hhl := htD_length L
  rw [e1] at hhl
  have HHL := Lib.hid hhl
  have hhd : hdD L = vb N ++ vbs (htD L) := by rw [hdD_eq, e1]
  have HHD := Lib.hid hhd
  have HRI := Lib.hid hL
  clear e1 hhl hhd hL
  go_enter Tryz.func128, Tryz.ntmps128
  go_wp2_with fail
  refine (putVar_any none 0 0 N [] w (by omega) Reads.none_ (by simp) (by omega)).mono ?_
  rintro e w1 ⟨v1, rfl, hown1, hb1⟩
  rw [List.nil_append, Nat.zero_add] at hown1
  go_wp2_with fail
  go_loopw [3, 13] (fun s3 s13 wr => ∃ k : Nat, k ≤ N ∧ s13 = .int .i64 (k : Int) ∧ wr.ownsRow w.heap.size 5 1 s3 (vb N ++ vbs ((htD L).take k)).length (bs (vb N ++ vbs ((htD L).take k))) ∧ Below w.heap.size w wr) (fun _ i _ => N - (intOf i).toNat)
  case atStart => exact ⟨0, Nat.zero_le _, rfl, by simpa [vbs] using hown1, hb1⟩
  case round =>
    clear hown1 hb1
    obtain ⟨k, hk, rfl, hown, hb⟩ := hrel
    by_cases hlt : k < N
    · obtain ⟨ad, u, rfl, _, hu, hc0⟩ := (hr.below hb).at_ hlt
      obtain ⟨z, hz, rfl⟩ := zs_at hu
      have hzin := hl z (List.mem_of_getElem? hz)
      have HZ := Lib.hid hz
      clear hu hz
      have hvl := vbs_length ((htD L).take k)
      have hvn := vb_length N
      have htl : ((htD L).take k).length ≤ k := by rw [List.length_take]; omega
      have hwl : (vb N ++ vbs ((htD L).take k)).length ≤ 655370 := by rw [List.length_append]; omega
      by_cases hk0 : k = 0
      · have hzg := (zg_int hzin).2
        have hnk : ¬ 0 < k := by omega
        have HST : Hid (vbs ((htD L).take (k + 1)) = vbs ((htD L).take k) ++ vb (zg z)) := Lib.hid (vbs_step (by rw [hk0]; exact htD_zero (hk0 ▸ HZ.out)))
        clear hk0
        go_wp2_with fail
        refine (zigN_any z wr hzin).mono ?_
        rintro e w' ⟨rfl, rfl⟩
        go_wp2_with fail
        refine (putVar_any none 0 0 (zg z) [] wr hzg Reads.none_ (by simp) (by omega)).mono ?_
        intro e2 w2 hN2
        obtain ⟨A2, c2, rfl, _, hr2, hb2⟩ := hN2.opened
        rw [Nat.zero_add, List.nil_append] at hr2
        simp only [Nat.zero_add]
        have hg2 : (vb (zg z)).length ≤ 10 := (vb_length (zg z)).2
        have hown2 := own_below hown hb2
        have hb02 := hb.trans (hb2.mono hb.size)
        go_wp2_with (at_builtin
                     refine wpList_append_any _ rfl (.tmp 31) (.tmp 33) _ rfl w.heap.size 5 i0 _ 1 1 Tryz.underlying66 hi0 hz0 hz1 hz2 rfl (by omega) u3 (vb N ++ vbs ((htD L).take k)).length (bs (vb N ++ vbs ((htD L).take k))) rfl
                       hown2 w2.heap.size A2 (vb (zg z)).length c2 (bs (vb (zg z))) rfl hr2 (bs_one _) (by unfold maxLen; omega) (by omega) hb02.size ?_
                     intro v3 w3 hown3 hg3 hat3)
        go_round
        case rel =>
          refine ⟨k + 1, by omega, by go_num, ?_, hb02.grown hg3 hb02.size (fun j hj => (hown2.lt j hj).1)⟩
          rw [HST.out, ← List.append_assoc, List.length_append, bs_append]
          exact hown3
        case measure => simp [intOf]; omega
      · obtain ⟨j, hj⟩ : ∃ j, k = j + 1 := ⟨k - 1, by omega⟩
        have hjn : j < N := by omega
        have hk1 : (k : Int) - 1 = (j : Int) := by omega
        obtain ⟨ad2, u2, e2, _, hu2, hc1⟩ := (hr.below hb).at_ hjn
        injection e2 with e2
        subst e2
        obtain ⟨y, hy, rfl⟩ := zs_at hu2
        have hyin := hl y (List.mem_of_getElem? hy)
        have hyz : y < z := by
          have h1 := List.pairwise_iff_getElem.1 HRI.out
          obtain ⟨a1, a2⟩ := List.getElem?_eq_some_iff.1 hy
          obtain ⟨b1, b2⟩ := List.getElem?_eq_some_iff.1 HZ.out
          have := h1 j k a1 b1 (by omega)
          omega
        have hgp : ∃ g, g = (z - y - 1).toNat := ⟨_, rfl⟩
        obtain ⟨g, hg⟩ := hgp
        have HST : Hid (vbs ((htD L).take (k + 1)) = vbs ((htD L).take k) ++ vb g) := Lib.hid (by
          refine vbs_step ?_
          rw [hg, hj]
          exact htD_succ hy (hj ▸ HZ.out))
        have hgl : g < 18446744073709551616 := by unfold In64 at hyin hzin; omega
        have hgi : (g : Int) = z - y - 1 := by omega
        have HX : Hid (IntKind.u64.wrap (IntKind.u64.wrap (wrap64 (z - y)) - 1) = (g : Int)) := Lib.hid (by rw [gap_eq hyin hzin hyz, hg])
        have HJ := Lib.hid hj; have HYZ := Lib.hid hyz; have HIN := Lib.hid (And.intro hyin hzin)
        clear hu2 hy hg hgi hj hyz
        go_wp2_with fail
        refine (zigN_any z wr hzin).mono ?_
        rintro e w' ⟨rfl, rfl⟩
        go_wp2_with fail
        rw [HX.out]
        refine (putVar_any none 0 0 g [] wr hgl Reads.none_ (by simp) (by omega)).mono ?_
        intro e2 w2 hN2
        obtain ⟨A2, c2, rfl, _, hr2, hb2⟩ := hN2.opened
        rw [Nat.zero_add, List.nil_append] at hr2
        simp only [Nat.zero_add]
        have hg2 : (vb g).length ≤ 10 := (vb_length g).2
        have hown2 := own_below hown hb2
        have hb02 := hb.trans (hb2.mono hb.size)
        go_wp2_with (at_builtin
                     refine wpList_append_any _ rfl (.tmp 31) (.tmp 33) _ rfl w.heap.size 5 i0 _ 1 1 Tryz.underlying66 hi0 hz0 hz1 hz2 rfl (by omega) u3 (vb N ++ vbs ((htD L).take k)).length (bs (vb N ++ vbs ((htD L).take k))) rfl
                       hown2 w2.heap.size A2 (vb g).length c2 (bs (vb g)) rfl hr2 (bs_one _) (by unfold maxLen; omega) (by omega) hb02.size ?_
                     intro v3 w3 hown3 hg3 hat3)
        go_round
        case rel =>
          refine ⟨k + 1, by omega, by go_num, ?_, hb02.grown hg3 hb02.size (fun j hj => (hown2.lt j hj).1)⟩
          rw [HST.out, ← List.append_assoc, List.length_append, bs_append]
          exact hown3
        case measure => simp [intOf]; omega
    · obtain rfl : k = N := by omega
      have hd := HHD.out
      go_wp2_with fail
      go_ret
      rw [List.take_of_length_le (by rw [HHL.out]; exact Nat.le_refl _), ← hd] at hown
      exact ⟨_, rfl, hown, hb⟩
end Go.Proofs.YtpgdlmnhomnblaaGreatDoor
namespace Go.Proofs.YtpgdlmnhomnblaaGreatDoor
open Go.RowKit
set_option linter.unusedVariables false
set_option linter.unusedSimpArgs false
set_option maxRecDepth 100000
theorem two_parts (w : World) (t : TypeId) (v1 v2 : Value) (l1 l2 : List Nat) (h1 : IsB w v1 l1) (h2 : IsB w v2 l2) :
    LL (w.alloc (.cells #[v1, v2] t)) (some ⟨w.heap.size, 0, none⟩) [l1, l2] := by
  have hb : Below w.heap.size w (w.alloc (.cells #[v1, v2] t)) := (Below.refl _ _).alloc (Nat.le_refl _) _
  exact ⟨[v1, v2], reads_blk (Blk.new w t #[v1, v2]) _ 2 _ (by simp) rfl rfl, h1.next hb, h2.next hb, trivial⟩
end Go.Proofs.YtpgdlmnhomnblaaGreatDoor
namespace Go.Proofs.YtpgdlmnhomnblaaGreatDoor
open Go.RowKit
set_option linter.unusedVariables false
set_option linter.unusedSimpArgs false
set_option maxRecDepth 100000
def pcB (P : List Nat) : List Nat := wd P :: packB (wd P) P
theorem pcB_flat (P : List Nat) : [[wd P], packB (wd P) P].flatten = pcB P := by simp [pcB]
end Go.Proofs.YtpgdlmnhomnblaaGreatDoor
