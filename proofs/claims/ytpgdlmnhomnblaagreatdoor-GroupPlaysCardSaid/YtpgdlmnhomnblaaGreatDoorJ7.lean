import Derived.Test.YtpgdlmnhomnblaaGreatDoorJ1
import Derived.Sort.EncStr
import Derived.Deep.QuietTactic
import Derived.BigQuiet
import Derived.Test.YtpgdlmnhomnblaaGreatDoorJ6
import Derived.Laws.Rows
import Derived.Laws.EntriesVeiled
import Derived.Test.YtpgdlmnhomnblaaGreatDoorJ2
namespace Go.Proofs.YtpgdlmnhomnblaaGreatDoor
open Go.RowKit
set_option linter.unusedVariables false
set_option linter.unusedSimpArgs false
set_option maxRecDepth 100000
def ts (l : List (List UInt8)) : List Value := l.map Go.Proofs.encStr
theorem ts_length (l : List (List UInt8)) : (ts l).length = l.length := by simp [ts]
theorem ts_append (l m : List (List UInt8)) : ts (l ++ m) = ts l ++ ts m := by simp [ts]
theorem ts_take (l : List (List UInt8)) (k : Nat) : (ts l).take k = ts (l.take k) := by simp [ts]
theorem ts_drop (l : List (List UInt8)) (k : Nat) : (ts l).drop k = ts (l.drop k) := by simp [ts]
theorem ts_one (l : List (List UInt8)) : ∀ u ∈ ts l, u.oneCell' = true := by
  intro u hu
  obtain ⟨b, _, rfl⟩ := List.mem_map.1 hu
  rfl
theorem ts_at {l : List (List UInt8)} {k : Nat} {u : Value} (h : (ts l)[k]? = some u) : ∃ b, l[k]? = some b ∧ u = .string ⟨b.toArray⟩ := by
  unfold ts at h
  rw [List.getElem?_map] at h
  cases hb : l[k]? with
  | none => rw [hb] at h; cases h
  | some b => rw [hb] at h; injection h with h; exact ⟨b, rfl, h.symm⟩
theorem ts_get {l : List (List UInt8)} {k : Nat} {z : List UInt8} (h : l[k]? = some z) : (ts l)[k]? = some (.string ⟨z.toArray⟩) := by unfold ts; rw [List.getElem?_map, h]; rfl
theorem size_enc (x : List UInt8) : (⟨x.toArray⟩ : ByteArray).size = x.length := by simp [ByteArray.size]
end Go.Proofs.YtpgdlmnhomnblaaGreatDoor
namespace Go.Proofs.YtpgdlmnhomnblaaGreatDoor
open Go.RowKit
set_option linter.unusedVariables false
set_option linter.unusedSimpArgs false
set_option maxRecDepth 100000
theorem info_str : (Tryz.prog.info? 9).map (fun i => (i.zero, i.size, i.bytes)) = some (some (.string ⟨#[]⟩), 1, 16) := by kernel_rfl
theorem run_make_str (n c : Nat) (hnc : n ≤ c) (hc : c ≤ 8796093022208) (w : World) :
    (Instr.makeSlice 175 (.int .i64 (n : Int)) (.int .i64 (c : Int))).run Tryz.prog w = .ok (.slice (some ⟨w.heap.size, 0, none⟩) n c) (w.alloc (.cells (madeCells #[.string ⟨#[]⟩] c) 9)) := by
  obtain ⟨i, hi, hz0, hz1, hz2⟩ := info_parts info_str
  have hr := run_make (P := Tryz.prog) w 175 9 i _ Tryz.underlying175 hi hz0 .i64 .i64 n c (by omega) (by omega) (by rw [hz2]; omega) (by omega)
  rw [hz1] at hr
  simpa [Value.cells] using hr
def NewT (w : World) (l : List (List UInt8)) (e : Ending) (w' : World) : Prop := ∃ v, e = .returned v ∧ w'.ownsRow w.heap.size 9 1 v l.length (ts l) ∧ Below w.heap.size w w'
theorem NewT.opened {w w' : World} {l : List (List UInt8)} {e : Ending} (h : NewT w l e w') : ∃ A c, e = .returned (.slice A l.length c) ∧ l.length ≤ c ∧ c ≤ maxLen ∧ Reads w' w'.heap.size 1 A l.length (ts l) ∧ Below w.heap.size w w' := by
  obtain ⟨v, rfl, hown, hb⟩ := h
  obtain ⟨A, c, rfl, hc, hm, hr⟩ := own_slice hown
  exact ⟨A, c, rfl, hc, hm, hr, hb⟩
def NewTE (w : World) (l : List (List UInt8)) (x : Int) (e : Ending) (w' : World) : Prop :=
  ∃ v, e = .returned (.tuple #[v, .int .i64 x]) ∧ w'.ownsRow w.heap.size 9 1 v l.length (ts l) ∧ Below w.heap.size w w'
theorem NewTE.opened {w w' : World} {l : List (List UInt8)} {x : Int} {e : Ending} (h : NewTE w l x e w') : ∃ A c, e = .returned (.tuple #[.slice A l.length c, .int .i64 x]) ∧ l.length ≤ c ∧ c ≤ maxLen ∧ Reads w' w'.heap.size 1 A l.length (ts l) ∧ Below w.heap.size w w' := by
  obtain ⟨v, rfl, hown, hb⟩ := h
  obtain ⟨A, c, rfl, hc, hm, hr⟩ := own_slice hown
  exact ⟨A, c, rfl, hc, hm, hr, hb⟩
end Go.Proofs.YtpgdlmnhomnblaaGreatDoor
namespace Go.Proofs.YtpgdlmnhomnblaaGreatDoor
open Go.RowKit
set_option linter.unusedVariables false
set_option linter.unusedSimpArgs false
set_option maxRecDepth 100000
def Fst (l : List Vl) (p : Vl → Bool) (K : Nat) : Prop := K ≤ l.length ∧ ∀ j u, l[j]? = some u → (j < K → p u = false) ∧ (j = K → p u = true)
theorem fst_is (l : List Vl) (p : Vl → Bool) : ∃ K, Fst l p K ∧ (decide (K < l.length) = l.any p) := by
  induction l with
  | nil => exact ⟨0, ⟨Nat.le_refl _, fun j u h => by simp at h⟩, rfl⟩
  | cons v l ih =>
    cases hv : p v with
    | true =>
      refine ⟨0, ⟨Nat.zero_le _, fun j u h => ⟨fun h0 => absurd h0 (by omega), fun h0 => ?_⟩⟩, by simp [hv]⟩
      subst h0
      simp at h
      rw [← h]; exact hv
    | false =>
      obtain ⟨K, ⟨h1, h2⟩, h3⟩ := ih
      refine ⟨K + 1, ⟨by simp; omega, fun j u h => ?_⟩, by simp [hv, ← h3]⟩
      cases j with
      | zero =>
        simp at h
        refine ⟨fun _ => by rw [← h]; exact hv, fun e => by omega⟩
      | succ j =>
        simp at h
        exact ⟨fun e => (h2 j u h).1 (by omega), fun e => (h2 j u h).2 (by omega)⟩
set_option maxHeartbeats 1000000 in
theorem indexV1_any (A : Option Addr) (n c K : Nat) (l : List Vl) (p : Vl → Bool) (w : World) (hr : Reads w w.heap.size 3 A n (vs l)) (hn : n ≤ 65536) (hK : Fst l p K)
    (hf : ∀ (u : Vl) (W : World), Below w.heap.size w W → Calls Tryz.prog 66 #[vW u] W fun e W' => e = .returned (.bool (p u)) ∧ Below W.heap.size W W') :
    Calls Tryz.prog 105 #[.slice A n c, .func (.func 66) #[] #[]] w fun e w' => e = .returned (.int .i64 (if K < n then (K : Int) else -1)) ∧ Below w.heap.size w w' := by
  have e1 : l.length = n := by have := hr.1; rw [vs_length] at this; omega
  obtain ⟨hKl, hKp⟩ := hK
  rw [e1] at hKl
  have HF := Lib.hid hf; have HP := Lib.hid hKp; have HE := Lib.hid e1
  obtain ⟨res, hres⟩ : ∃ res : Int, res = if K < n then (K : Int) else -1 := ⟨_, rfl⟩
  rw [← hres]
  have HR := Lib.hid hres
  clear hf hKp e1 hres
  go_enter Tryz.func105, Tryz.ntmps105
  go_wp2_with fail
  go_loopw [8] (fun s wr => ∃ k : Nat, k ≤ K ∧ s = .int .i64 (k : Int) ∧ Below w.heap.size w wr) (fun i _ => n - (intOf i).toNat)
  case atStart => exact ⟨0, Nat.zero_le _, rfl, Below.refl _ _⟩
  case round =>
    obtain ⟨k, hk, rfl, hb⟩ := hrel
    by_cases hlt : k < n
    · obtain ⟨⟨v0, v1, v2⟩, hv⟩ : ∃ v, l[k]? = some v := ⟨_, List.getElem?_eq_getElem (by rw [HE.out]; exact hlt)⟩
      obtain ⟨b, o, rfl, hb0, x0, x1, x2⟩ := (hr.below hb).val hv
      have hc := HF.out (v0, v1, v2) wr hb
      have hp := HP.out k _ hv
      unfold vW at hc
      by_cases hkK : k < K
      · rw [hp.1 hkK] at hc
        have HC := Lib.hid hc
        clear hc hp hv
        go_wp2_with fail
        refine HC.out.mono ?_
        rintro e w2 ⟨rfl, hb2⟩
        go_wp2_with fail
        go_round
        case rel => exact ⟨k + 1, by omega, by go_num, hb.trans (hb2.mono hb.size)⟩
        case measure => simp [intOf]; omega
      · obtain rfl : k = K := by omega
        rw [hp.2 rfl] at hc
        have HC := Lib.hid hc
        clear hc hp hv
        go_wp2_with fail
        refine HC.out.mono ?_
        rintro e w2 ⟨rfl, hb2⟩
        go_wp2_with fail
        go_ret
        exact ⟨by rw [HR.out, if_pos hlt]; rfl, hb.trans (hb2.mono hb.size)⟩
    · go_wp2_with fail
      go_ret
      exact ⟨by rw [HR.out, if_neg (by omega)]; rfl, hb⟩
theorem containsV1_any (A : Option Addr) (n c : Nat) (l : List Vl) (p : Vl → Bool) (r : Bool) (w : World) (hr : Reads w w.heap.size 3 A n (vs l)) (hn : n ≤ 65536) (hp : l.any p = r)
    (hf : ∀ (u : Vl) (W : World), Below w.heap.size w W → Calls Tryz.prog 66 #[vW u] W fun e W' => e = .returned (.bool (p u)) ∧ Below W.heap.size W W') :
    Calls Tryz.prog 71 #[.slice A n c, .func (.func 66) #[] #[]] w fun e w' => e = .returned (.bool r) ∧ Below w.heap.size w w' := by
  have e1 : l.length = n := by have := hr.1; rw [vs_length] at this; omega
  obtain ⟨K, hK, hq⟩ := fst_is l p
  have hi := indexV1_any A n c K l p w hr hn hK hf
  rw [hp, e1] at hq
  by_cases h : K < n
  · rw [if_pos h] at hi
    obtain rfl : r = true := by rw [← hq]; simp [h]
    have HI := Lib.hid hi
    clear hf hi hK hq hp hr
    go_enter Tryz.func71, Tryz.ntmps71
    go_wp2_with fail
    refine HI.out.mono ?_
    rintro e w2 ⟨rfl, hb2⟩
    go_wp2_with fail
    go_ret
    exact ⟨rfl, hb2⟩
  · rw [if_neg h] at hi
    obtain rfl : r = false := by rw [← hq]; simp; omega
    have HI := Lib.hid hi
    clear hf hi hK hq hp hr
    go_enter Tryz.func71, Tryz.ntmps71
    go_wp2_with fail
    refine HI.out.mono ?_
    rintro e w2 ⟨rfl, hb2⟩
    go_wp2_with fail
    go_ret
    exact ⟨rfl, hb2⟩
set_option maxHeartbeats 1000000 in
theorem indexV2_any (A : Option Addr) (n c K : Nat) (g : Nat) (l : List Vl) (p : Vl → Bool) (w : World) (hr : Reads w w.heap.size 3 A n (vs l)) (hn : n ≤ 65536) (hK : Fst l p K)
    (hf : ∀ (u : Vl) (W : World), Below w.heap.size w W → Calls Tryz.prog 67 #[vW u, .pointer (some ⟨g, 0, none⟩)] W fun e W' => e = .returned (.bool (p u)) ∧ Below W.heap.size W W') :
    Calls Tryz.prog 105 #[.slice A n c, .func (.func 67) #[] #[.pointer (some ⟨g, 0, none⟩)]] w fun e w' => e = .returned (.int .i64 (if K < n then (K : Int) else -1)) ∧ Below w.heap.size w w' := by
  have e1 : l.length = n := by have := hr.1; rw [vs_length] at this; omega
  obtain ⟨hKl, hKp⟩ := hK
  rw [e1] at hKl
  have HF := Lib.hid hf; have HP := Lib.hid hKp; have HE := Lib.hid e1
  obtain ⟨res, hres⟩ : ∃ res : Int, res = if K < n then (K : Int) else -1 := ⟨_, rfl⟩
  rw [← hres]
  have HR := Lib.hid hres
  clear hf hKp e1 hres
  go_enter Tryz.func105, Tryz.ntmps105
  go_wp2_with fail
  go_loopw [8] (fun s wr => ∃ k : Nat, k ≤ K ∧ s = .int .i64 (k : Int) ∧ Below w.heap.size w wr) (fun i _ => n - (intOf i).toNat)
  case atStart => exact ⟨0, Nat.zero_le _, rfl, Below.refl _ _⟩
  case round =>
    obtain ⟨k, hk, rfl, hb⟩ := hrel
    by_cases hlt : k < n
    · obtain ⟨⟨v0, v1, v2⟩, hv⟩ : ∃ v, l[k]? = some v := ⟨_, List.getElem?_eq_getElem (by rw [HE.out]; exact hlt)⟩
      obtain ⟨b, o, rfl, hb0, x0, x1, x2⟩ := (hr.below hb).val hv
      have hc := HF.out (v0, v1, v2) wr hb
      have hp := HP.out k _ hv
      unfold vW at hc
      by_cases hkK : k < K
      · rw [hp.1 hkK] at hc
        have HC := Lib.hid hc
        clear hc hp hv
        go_wp2_with fail
        refine HC.out.mono ?_
        rintro e w2 ⟨rfl, hb2⟩
        go_wp2_with fail
        go_round
        case rel => exact ⟨k + 1, by omega, by go_num, hb.trans (hb2.mono hb.size)⟩
        case measure => simp [intOf]; omega
      · obtain rfl : k = K := by omega
        rw [hp.2 rfl] at hc
        have HC := Lib.hid hc
        clear hc hp hv
        go_wp2_with fail
        refine HC.out.mono ?_
        rintro e w2 ⟨rfl, hb2⟩
        go_wp2_with fail
        go_ret
        exact ⟨by rw [HR.out, if_pos hlt]; rfl, hb.trans (hb2.mono hb.size)⟩
    · go_wp2_with fail
      go_ret
      exact ⟨by rw [HR.out, if_neg (by omega)]; rfl, hb⟩
theorem containsV2_any (A : Option Addr) (n c : Nat) (g : Nat) (l : List Vl) (p : Vl → Bool) (r : Bool) (w : World) (hr : Reads w w.heap.size 3 A n (vs l)) (hn : n ≤ 65536) (hp : l.any p = r)
    (hf : ∀ (u : Vl) (W : World), Below w.heap.size w W → Calls Tryz.prog 67 #[vW u, .pointer (some ⟨g, 0, none⟩)] W fun e W' => e = .returned (.bool (p u)) ∧ Below W.heap.size W W') :
    Calls Tryz.prog 71 #[.slice A n c, .func (.func 67) #[] #[.pointer (some ⟨g, 0, none⟩)]] w fun e w' => e = .returned (.bool r) ∧ Below w.heap.size w w' := by
  have e1 : l.length = n := by have := hr.1; rw [vs_length] at this; omega
  obtain ⟨K, hK, hq⟩ := fst_is l p
  have hi := indexV2_any A n c K g l p w hr hn hK hf
  rw [hp, e1] at hq
  by_cases h : K < n
  · rw [if_pos h] at hi
    obtain rfl : r = true := by rw [← hq]; simp [h]
    have HI := Lib.hid hi
    clear hf hi hK hq hp hr
    go_enter Tryz.func71, Tryz.ntmps71
    go_wp2_with fail
    refine HI.out.mono ?_
    rintro e w2 ⟨rfl, hb2⟩
    go_wp2_with fail
    go_ret
    exact ⟨rfl, hb2⟩
  · rw [if_neg h] at hi
    obtain rfl : r = false := by rw [← hq]; simp; omega
    have HI := Lib.hid hi
    clear hf hi hK hq hp hr
    go_enter Tryz.func71, Tryz.ntmps71
    go_wp2_with fail
    refine HI.out.mono ?_
    rintro e w2 ⟨rfl, hb2⟩
    go_wp2_with fail
    go_ret
    exact ⟨rfl, hb2⟩
theorem longV_any (v : Vl) (w : World) : Calls Tryz.prog 66 #[vW v] w fun e w' => e = .returned (.bool (decide (65536 < v.2.2.length))) ∧ Below w.heap.size w w' := by
  obtain ⟨v0, v1, z⟩ := v
  unfold vW
  have hz := size_enc z
  have hB : Below w.heap.size w (w.alloc (.cells #[.int .i64 v0, .int .i64 v1, .string ⟨z.toArray⟩] 51)) := (Below.refl _ _).alloc (Nat.le_refl _) _
  by_cases h : 65536 < z.length
  · have d1 : decide ((65536 : Int) < (z.length : Int)) = true := by simp; omega
    simp only [show decide (65536 < z.length) = true by simp [h]]
    go_enter Tryz.func66, Tryz.ntmps66
    go_wp2_with fail
    go_ret
    exact ⟨rfl, hB⟩
  · have d1 : decide ((65536 : Int) < (z.length : Int)) = false := by simp; omega
    simp only [show decide (65536 < z.length) = false by simp; omega]
    go_enter Tryz.func66, Tryz.ntmps66
    go_wp2_with fail
    go_ret
    exact ⟨rfl, hB⟩
theorem wrongV_any (v : Vl) (kd : Int) (g : Nat) (hk : kd = 1 ∨ kd = 2) (w : World) (hg : w.cell? ⟨g, 0, none⟩ = some (.int .i64 kd)) :
    Calls Tryz.prog 67 #[vW v, .pointer (some ⟨g, 0, none⟩)] w fun e w' => e = .returned (.bool (!rgt kd v)) ∧ Below w.heap.size w w' := by
  have HM := Lib.hid fun W => mayStandC_any v kd hk W
  obtain ⟨r, hr⟩ : ∃ r, rgt kd v = r := ⟨_, rfl⟩
  rw [hr] at HM ⊢
  obtain ⟨v0, v1, z⟩ := v
  unfold vW at HM ⊢
  simp only at HM ⊢
  have hB : Below w.heap.size w (w.alloc (.cells #[.int .i64 v0, .int .i64 v1, .string ⟨z.toArray⟩] 51)) := (Below.refl _ _).alloc (Nat.le_refl _) _
  have hglt : g < w.heap.size := World.block_lt_of_cell? _ _ hg
  clear hr hk
  go_enter Tryz.func67, Tryz.ntmps67
  go_wp2_with fail
  refine (HM.out _).mono ?_
  rintro e w2 ⟨rfl, hb2⟩
  go_wp2_with fail
  go_ret
  exact ⟨rfl, hB.trans (hb2.mono (by simp))⟩
end Go.Proofs.YtpgdlmnhomnblaaGreatDoor
namespace Go.Proofs.YtpgdlmnhomnblaaGreatDoor
open Go.RowKit
theorem hmfP (fn : Fn) (first cap : Array Value) (w : World) : (Instr.makeFunc fn first cap).run Tryz.prog w = .ok (.func fn first cap) w := by rfl
end Go.Proofs.YtpgdlmnhomnblaaGreatDoor
namespace Go.Proofs.YtpgdlmnhomnblaaGreatDoor
open Go.RowKit
set_option linter.unusedVariables false
set_option linter.unusedSimpArgs false
set_option maxRecDepth 100000
def FnAt (w : World) (g : Nat) (f : FuncId) : Prop := w.cell? ⟨g, 0, none⟩ = some (.func (.func f) #[] #[])
section
variable {w w' : World} {g k f1 f2 f : FuncId} {v : Value}
theorem FnAt.lt (h : FnAt w g f) : g < w.heap.size := World.block_lt_of_cell? _ _ h
theorem FnAt.below (h : FnAt w g f) (hb : Below w.heap.size w w') : FnAt w' g f := (hb.cell (p := ⟨g, 0, none⟩) h.lt).trans h
theorem FnAt.alloc (h : FnAt w g f) (o : Obj) : FnAt (w.alloc o) g f := h.below ((Below.refl _ _).alloc (Nat.le_refl _) o)
def Ltr (w : World) (k f1 f2 : FuncId) (v : Value) : Prop := ∃ g1 g2, v = .func (.func k) #[] #[.pointer (some ⟨g1, 0, none⟩), .pointer (some ⟨g2, 0, none⟩)] ∧ FnAt w g1 f1 ∧ FnAt w g2 f2
theorem Ltr.below (h : Ltr w k f1 f2 v) (hb : Below w.heap.size w w') : Ltr w' k f1 f2 v := by
  obtain ⟨g1, g2, hv, h1, h2⟩ := h
  exact ⟨g1, g2, hv, h1.below hb, h2.below hb⟩
end
theorem four_fns (w : World) (p g i n : FuncId) (t1 t2 t3 t4 t5 : TypeId) (cs : Array Value) (W : World)
    (hW : W = (((((w.alloc (.cells #[.func (.func p) #[] #[]] t1)).alloc (.cells #[.func (.func g) #[] #[]] t2)).alloc (.cells #[.func (.func i) #[] #[]] t3)).alloc (.cells #[.func (.func n) #[] #[]] t4)).alloc (.cells cs t5))) :
    FnAt W w.heap.size p ∧ FnAt W (w.heap.size + 1) g ∧ FnAt W (w.heap.size + 1 + 1) i ∧ FnAt W (w.heap.size + 1 + 1 + 1) n ∧ Blk W (w.heap.size + 1 + 1 + 1 + 1) t5 cs ∧ Below w.heap.size w W := by
  have hn : ∀ (V : World) (f : FuncId) (t : TypeId), FnAt (V.alloc (.cells #[.func (.func f) #[] #[]] t)) V.heap.size f := fun V f t => (Blk.new V t #[.func (.func f) #[] #[]]).cell 0
  have h1 := hn w p t1
  have h2 := hn (w.alloc (.cells #[.func (.func p) #[] #[]] t1)) g t2
  have h3 := hn ((w.alloc (.cells #[.func (.func p) #[] #[]] t1)).alloc (.cells #[.func (.func g) #[] #[]] t2)) i t3
  have h4 := hn (((w.alloc (.cells #[.func (.func p) #[] #[]] t1)).alloc (.cells #[.func (.func g) #[] #[]] t2)).alloc (.cells #[.func (.func i) #[] #[]] t3)) n t4
  have h5 := Blk.new ((((w.alloc (.cells #[.func (.func p) #[] #[]] t1)).alloc (.cells #[.func (.func g) #[] #[]] t2)).alloc (.cells #[.func (.func i) #[] #[]] t3)).alloc (.cells #[.func (.func n) #[] #[]] t4)) t5 cs
  have k1 := (((h1.alloc (.cells #[.func (.func g) #[] #[]] t2)).alloc (.cells #[.func (.func i) #[] #[]] t3)).alloc (.cells #[.func (.func n) #[] #[]] t4)).alloc (.cells cs t5)
  have k2 := ((h2.alloc (.cells #[.func (.func i) #[] #[]] t3)).alloc (.cells #[.func (.func n) #[] #[]] t4)).alloc (.cells cs t5)
  have k3 := (h3.alloc (.cells #[.func (.func n) #[] #[]] t4)).alloc (.cells cs t5)
  have k4 := h4.alloc (.cells cs t5)
  have hb : Below w.heap.size w (((((w.alloc (.cells #[.func (.func p) #[] #[]] t1)).alloc (.cells #[.func (.func g) #[] #[]] t2)).alloc (.cells #[.func (.func i) #[] #[]] t3)).alloc (.cells #[.func (.func n) #[] #[]] t4)).alloc (.cells cs t5)) :=
    (((((Below.refl _ _).alloc (Nat.le_refl _) _).alloc (by simp) _).alloc (by simp; omega) _).alloc (by simp; omega) _).alloc (by simp; omega) _
  rw [← hW] at k1 k2 k3 k4 h5 hb
  refine ⟨k1, by simpa using k2, by simpa using k3, by simpa using k4, by simpa using h5, hb⟩
theorem formI_any (p g : FuncId) (w : World) :
    Calls Tryz.prog 72 #[.int .i64 1, .func (.func p) #[] #[], .func (.func g) #[] #[], .func (.func 75) #[] #[], .func (.func 76) #[] #[]] w
      fun e w' => ∃ v1 v2, e = .returned (.agg #[.int .i64 1, v1, v2]) ∧ Ltr w' 106 p 75 v1 ∧ Ltr w' 108 g 76 v2 ∧ Below w.heap.size w w' := by
  have hmf := hmfP
  go_enter Tryz.func72, Tryz.ntmps72
  go_wp2_with fail
  obtain ⟨W, hW⟩ : ∃ W, W = (((((w.alloc (.cells #[.func (.func p) #[] #[]] 116)).alloc (.cells #[.func (.func g) #[] #[]] 117)).alloc (.cells #[.func (.func 75) #[] #[]] 118)).alloc (.cells #[.func (.func 76) #[] #[]] 119)).alloc (.cells #[.int .i64 1, .func (.func 106) #[] #[.pointer (some ⟨w.heap.size, 0, none⟩), .pointer (some ⟨w.heap.size + 1 + 1, 0, none⟩)], .func (.func 108) #[] #[.pointer (some ⟨w.heap.size + 1, 0, none⟩), .pointer (some ⟨w.heap.size + 1 + 1 + 1, 0, none⟩)]] 95)) := ⟨_, rfl⟩
  obtain ⟨h1, h2, h3, h4, h5, hb⟩ := four_fns w p g _ _ _ _ _ _ _ _ W hW
  rw [← hW]
  exact bodyPost_ret (v := .agg #[.int .i64 1, .func (.func 106) #[] #[.pointer (some ⟨w.heap.size, 0, none⟩), .pointer (some ⟨w.heap.size + 1 + 1, 0, none⟩)], .func (.func 108) #[] #[.pointer (some ⟨w.heap.size + 1, 0, none⟩), .pointer (some ⟨w.heap.size + 1 + 1 + 1, 0, none⟩)]])
    (results_cell_row rfl _ _ _ _ _ _ _ (by rfl) h5 Tryz.underlying95 rfl (by kernel_rfl)) rfl ⟨_, _, rfl, ⟨_, _, rfl, h1, h3⟩, ⟨_, _, rfl, h2, h4⟩, hb⟩
theorem formT_any (p g : FuncId) (w : World) :
    Calls Tryz.prog 85 #[.int .i64 2, .func (.func p) #[] #[], .func (.func g) #[] #[], .func (.func 88) #[] #[], .func (.func 89) #[] #[]] w
      fun e w' => ∃ v1 v2, e = .returned (.agg #[.int .i64 2, v1, v2]) ∧ Ltr w' 134 p 88 v1 ∧ Ltr w' 136 g 89 v2 ∧ Below w.heap.size w w' := by
  have hmf := hmfP
  go_enter Tryz.func85, Tryz.ntmps85
  go_wp2_with fail
  obtain ⟨W, hW⟩ : ∃ W, W = (((((w.alloc (.cells #[.func (.func p) #[] #[]] 121)).alloc (.cells #[.func (.func g) #[] #[]] 122)).alloc (.cells #[.func (.func 88) #[] #[]] 123)).alloc (.cells #[.func (.func 89) #[] #[]] 124)).alloc (.cells #[.int .i64 2, .func (.func 134) #[] #[.pointer (some ⟨w.heap.size, 0, none⟩), .pointer (some ⟨w.heap.size + 1 + 1, 0, none⟩)], .func (.func 136) #[] #[.pointer (some ⟨w.heap.size + 1, 0, none⟩), .pointer (some ⟨w.heap.size + 1 + 1 + 1, 0, none⟩)]] 95)) := ⟨_, rfl⟩
  obtain ⟨h1, h2, h3, h4, h5, hb⟩ := four_fns w p g _ _ _ _ _ _ _ _ W hW
  rw [← hW]
  exact bodyPost_ret (v := .agg #[.int .i64 2, .func (.func 134) #[] #[.pointer (some ⟨w.heap.size, 0, none⟩), .pointer (some ⟨w.heap.size + 1 + 1, 0, none⟩)], .func (.func 136) #[] #[.pointer (some ⟨w.heap.size + 1, 0, none⟩), .pointer (some ⟨w.heap.size + 1 + 1 + 1, 0, none⟩)]])
    (results_cell_row rfl _ _ _ _ _ _ _ (by rfl) h5 Tryz.underlying95 rfl (by kernel_rfl)) rfl ⟨_, _, rfl, ⟨_, _, rfl, h1, h3⟩, ⟨_, _, rfl, h2, h4⟩, hb⟩
def putF : Nat → FuncId
  | 0 => 73
  | 1 => 77
  | 2 => 79
  | 3 => 81
  | 4 => 83
  | _ => 86
def getF : Nat → FuncId
  | 0 => 74
  | 1 => 78
  | 2 => 80
  | 3 => 82
  | 4 => 84
  | _ => 87
def litP (k : Nat) : FuncId := if k = 5 then 134 else 106
def litG (k : Nat) : FuncId := if k = 5 then 136 else 108
def inF (k : Nat) : FuncId := if k = 5 then 88 else 75
def valF (k : Nat) : FuncId := if k = 5 then 89 else 76
structure Tab (w : World) (a b : Nat → Value) : Prop where
  put : ∀ k, k < 6 → Ltr w (litP k) (putF k) (inF k) (a k)
  get : ∀ k, k < 6 → Ltr w (litG k) (getF k) (valF k) (b k)
theorem Tab.below {w w' : World} {a b : Nat → Value} (h : Tab w a b) (hb : Below w.heap.size w w') : Tab w' a b := ⟨fun k hk => (h.put k hk).below hb, fun k hk => (h.get k hk).below hb⟩
def tabC (a b : Nat → Value) : Array Value := #[.int .i64 1, a 0, b 0, .int .i64 1, a 1, b 1, .int .i64 1, a 2, b 2, .int .i64 1, a 3, b 3, .int .i64 1, a 4, b 4, .int .i64 2, a 5, b 5]
def six (x0 x1 x2 x3 x4 x5 : Value) : Nat → Value
  | 0 => x0
  | 1 => x1
  | 2 => x2
  | 3 => x3
  | 4 => x4
  | _ => x5
theorem FnAt.row {w : World} {g k : Nat} {f : FuncId} {t : TypeId} {cs : Array Value} (h : FnAt w g f) (hb : Blk w k t cs) (h0 : cs[0]? = some (.int .i64 0)) (cs' : Array Value) : FnAt (w.setRow k cs') g f := by
  have hne : g ≠ k := by
    rintro rfl
    have h1 := hb.cell 0
    rw [h0] at h1
    unfold FnAt at h
    rw [h] at h1
    cases h1
  exact (World.cell?_of_block (setRow_other w k g cs' hne)).trans h
theorem Ltr.row {w : World} {k q f1 f2 : FuncId} {v : Value} {t : TypeId} {cs : Array Value} (h : Ltr w q f1 f2 v) (hb : Blk w k t cs) (h0 : cs[0]? = some (.int .i64 0)) (cs' : Array Value) : Ltr (w.setRow k cs') q f1 f2 v := by
  obtain ⟨g1, g2, hv, h1, h2⟩ := h
  exact ⟨g1, g2, hv, h1.row hb h0 cs', h2.row hb h0 cs'⟩
theorem int_cell (k : IntKind) (z : Int) : (Value.int k z).oneCell' = true := rfl
theorem Ltr.one {w : World} {k f1 f2 : FuncId} {v : Value} (h : Ltr w k f1 f2 v) : v.oneCell' = true := by
  obtain ⟨g1, g2, rfl, _, _⟩ := h
  rfl
set_option maxHeartbeats 1000000 in
theorem forms_any (w : World) : Calls Tryz.prog 44 #[] w fun e w' => ∃ a b, e = .returned (.agg (tabC a b)) ∧ Tab w' a b ∧ Below w.heap.size w w' := by
  have HI := Lib.hid fun p g W => formI_any p g W
  have HT := Lib.hid fun p g W => formT_any p g W
  have hbl := Blk.new w 96 #[.int .i64 0, .nilFunc, .nilFunc, .int .i64 0, .nilFunc, .nilFunc, .int .i64 0, .nilFunc, .nilFunc, .int .i64 0, .nilFunc, .nilFunc, .int .i64 0, .nilFunc, .nilFunc, .int .i64 0, .nilFunc, .nilFunc]
  go_enter Tryz.func44, Tryz.ntmps44
  go_wp2_with fail
  refine (HI.out _ _ _).mono ?_
  rintro e w1 ⟨P0, G0, rfl, A0, B0, hb1⟩
  have hw1 := ((Below.refl w.heap.size w).alloc (Nat.le_refl _) _).trans (hb1.mono (by simp))
  have hk1 := hbl.below hb1 (by simp)
  clear hb1 hbl
  go_wp2_with fail
  refine (HI.out _ _ _).mono ?_
  rintro e w2 ⟨P1, G1, rfl, A1, B1, hb2⟩
  replace A0 := A0.below hb2
  replace B0 := B0.below hb2
  have hw2 := hw1.trans (hb2.mono hw1.size)
  have hk2 := hk1.below hb2 hk1.lt
  clear hb2 hw1 hk1
  go_wp2_with fail
  refine (HI.out _ _ _).mono ?_
  rintro e w3 ⟨P2, G2, rfl, A2, B2, hb3⟩
  replace A0 := A0.below hb3
  replace B0 := B0.below hb3
  replace A1 := A1.below hb3
  replace B1 := B1.below hb3
  have hw3 := hw2.trans (hb3.mono hw2.size)
  have hk3 := hk2.below hb3 hk2.lt
  clear hb3 hw2 hk2
  go_wp2_with fail
  refine (HI.out _ _ _).mono ?_
  rintro e w4 ⟨P3, G3, rfl, A3, B3, hb4⟩
  replace A0 := A0.below hb4
  replace B0 := B0.below hb4
  replace A1 := A1.below hb4
  replace B1 := B1.below hb4
  replace A2 := A2.below hb4
  replace B2 := B2.below hb4
  have hw4 := hw3.trans (hb4.mono hw3.size)
  have hk4 := hk3.below hb4 hk3.lt
  clear hb4 hw3 hk3
  go_wp2_with fail
  refine (HI.out _ _ _).mono ?_
  rintro e w5 ⟨P4, G4, rfl, A4, B4, hb5⟩
  replace A0 := A0.below hb5
  replace B0 := B0.below hb5
  replace A1 := A1.below hb5
  replace B1 := B1.below hb5
  replace A2 := A2.below hb5
  replace B2 := B2.below hb5
  replace A3 := A3.below hb5
  replace B3 := B3.below hb5
  have hw5 := hw4.trans (hb5.mono hw4.size)
  have hk5 := hk4.below hb5 hk4.lt
  clear hb5 hw4 hk4
  go_wp2_with fail
  refine (HT.out _ _ _).mono ?_
  rintro e w6 ⟨P5, G5, rfl, A5, B5, hb6⟩
  replace A0 := A0.below hb6
  replace B0 := B0.below hb6
  replace A1 := A1.below hb6
  replace B1 := B1.below hb6
  replace A2 := A2.below hb6
  replace B2 := B2.below hb6
  replace A3 := A3.below hb6
  replace B3 := B3.below hb6
  replace A4 := A4.below hb6
  replace B4 := B4.below hb6
  have hw6 := hw5.trans (hb6.mono hw5.size)
  have hk6 := hk5.below hb6 hk5.lt
  clear hb6 hw5 hk5
  have hone : (#[.int .i64 1, P0, G0, .int .i64 1, P1, G1, .int .i64 1, P2, G2, .int .i64 1, P3, G3, .int .i64 1, P4, G4, .int .i64 2, P5, G5] : Array Value).all (·.oneCell') = true := by simp [A0.one, B0.one, A1.one, B1.one, A2.one, B2.one, A3.one, B3.one, A4.one, B4.one, A5.one, B5.one, int_cell]
  go_wp2_with (refine wpList_store_row (by rfl) (.tmp 0) (.tmp 7) (by rfl) (by rfl) (by rfl) hk6 (cs' := #[.int .i64 1, P0, G0, .int .i64 1, P1, G1, .int .i64 1, P2, G2, .int .i64 1, P3, G3, .int .i64 1, P4, G4, .int .i64 2, P5, G5]) (by kernel_rfl) rfl hone ?_)
  refine bodyPost_ret (v := .agg #[.int .i64 1, P0, G0, .int .i64 1, P1, G1, .int .i64 1, P2, G2, .int .i64 1, P3, G3, .int .i64 1, P4, G4, .int .i64 2, P5, G5]) (results_cell_row rfl _ _ _ _ _ _ _ (by rfl) (hk6.row _) Tryz.underlying96 rfl (by kernel_rfl)) rfl ⟨(six P0 P1 P2 P3 P4 P5), (six G0 G1 G2 G3 G4 G5), rfl, ⟨fun k hk => ?_, fun k hk => ?_⟩, Below.row hw6 (Nat.le_refl _) _⟩
  · skip
    have hc : k = 0 ∨ k = 1 ∨ k = 2 ∨ k = 3 ∨ k = 4 ∨ k = 5 := by omega
    rcases hc with rfl | rfl | rfl | rfl | rfl | rfl
    · exact A0.row hk6 rfl _
    · exact A1.row hk6 rfl _
    · exact A2.row hk6 rfl _
    · exact A3.row hk6 rfl _
    · exact A4.row hk6 rfl _
    · exact A5.row hk6 rfl _
  · skip
    have hc : k = 0 ∨ k = 1 ∨ k = 2 ∨ k = 3 ∨ k = 4 ∨ k = 5 := by omega
    rcases hc with rfl | rfl | rfl | rfl | rfl | rfl
    · exact B0.row hk6 rfl _
    · exact B1.row hk6 rfl _
    · exact B2.row hk6 rfl _
    · exact B3.row hk6 rfl _
    · exact B4.row hk6 rfl _
    · exact B5.row hk6 rfl _
end Go.Proofs.YtpgdlmnhomnblaaGreatDoor
