import Derived.Test.YtpgdlmnhomnblaaGreatDoorJ1
import Derived.Laws.CopyOwn
import Derived.Test.YtpgdlmnhomnblaaGreatDoorJ9
import Derived.Test.YtpgdlmnhomnblaaGreatDoorJ4
import Derived.Test.YtpgdlmnhomnblaaGreatDoorJ11
import Derived.BigQuiet
import Derived.Deep.QuietTactic
import Derived.Test.YtpgdlmnhomnblaaGreatDoorJ21
import Derived.Test.YtpgdlmnhomnblaaGreatDoorJ22
import Derived.Test.YtpgdlmnhomnblaaGreatDoorJ19
import Derived.Test.YtpgdlmnhomnblaaGreatDoorJ2
namespace Go.Proofs.YtpgdlmnhomnblaaGreatDoor
open Go.RowKit
set_option linter.unusedVariables false
set_option linter.unusedSimpArgs false
set_option maxRecDepth 100000
theorem reads_plain2 {w : World} {B size n k : Nat} {A : Option Addr} {xs : List Value} {u : Value} (h : Reads w B size A n xs) (hn : 0 < n) (hu : xs[k]? = some u) : ∃ b off, A = some ⟨b, off, none⟩ ∧ b < B ∧ ∀ j u, xs[j]? = some u → w.cell? ⟨b, off + j, none⟩ = some u := by
  obtain ⟨⟨b, off, sp⟩, rfl, hb, hc⟩ := h.2 hn
  have hl : 0 < xs.length := by have := (List.getElem?_eq_some_iff.1 hu).1; omega
  have h0 := hc 0 _ (List.getElem?_eq_getElem hl)
  have hsp : sp = none := by simpa [Addr.add] using World.cell?_spot h0
  subst hsp
  exact ⟨b, off, rfl, hb, fun j u hu => by have := hc j u hu; rwa [plain_add] at this⟩
end Go.Proofs.YtpgdlmnhomnblaaGreatDoor
namespace Go.Proofs.YtpgdlmnhomnblaaGreatDoor
open Go.RowKit
set_option linter.unusedVariables false
set_option linter.unusedSimpArgs false
theorem run_copy_rowS {P : Program} (w : World) (dT sT ty elem : TypeId) (s g o dLen dCap : Nat) (a : Addr) (sLen sCap : Nat) (cur : Array Value) (t : TypeId) (cs : List Value) (hu : P.underlying dT = some (.slice elem)) (hsz : (P.info? elem).map (·.size) = some s)
    (hg : w.heap[g]? = some (.cells cur t (0, 0))) (hn : cs.length = Nat.min sLen dLen * s)
    (hsrc : ∀ j v, cs[j]? = some v → w.cell? (a.add j) = some v) (hfit : o + cs.length ≤ cur.size) (h1 : ∀ v ∈ cs, v.oneCell' = true) :
    (Builtin.copy_ #[dT, sT] ty #[.slice (some ⟨g, o, none⟩) dLen dCap, .slice (some a) sLen sCap]).run P w =
      .ok (goInt (Nat.min sLen dLen)) (w.setRow g (cur.toList.take o ++ cs ++ cur.toList.drop (o + cs.length)).toArray) := by
  have hl := run_loadCells_list (P := P) w a cs hsrc
  have hst := run_storeCells_at (P := P) g o t cs 0 cur w hg (by simpa using hfit) h1
  obtain ⟨i, hi, hz⟩ := Option.map_eq_some_iff.1 hsz
  simp [Builtin.copy_, run_underlying hu, Builtin.lenOf, Builtin.firstCells, sizeOf, typeInfo, hi, hz, ← hn, hl, hst]
theorem run_copy_noneS {P : Program} (w : World) (dT sT ty elem : TypeId) (s dLen dCap sCap : Nat) (d : Option Addr) (hu : P.underlying dT = some (.slice elem)) (hsz : (P.info? elem).map (·.size) = some s) :
    (Builtin.copy_ #[dT, sT] ty #[.slice d 0 dCap, .slice none 0 sCap]).run P w = .ok (goInt 0) w := by
  obtain ⟨i, hi, hz⟩ := Option.map_eq_some_iff.1 hsz
  cases d <;> simp [Builtin.copy_, run_underlying hu, Builtin.lenOf, Builtin.firstCells, sizeOf, typeInfo, hi, hz, storeCells]
theorem wpList_copy_wholeS {P : Program} {w : World} {ops : Array Oper} {rest : List Oper} {o : Oper} {a : Act} {Q : Exit → Act → World → Prop} (hgd : o.guard = none) (d s : Operand) (dT sT : TypeId)
    (ho : o.op = .call { callee := .builtin .copy, args := #[d, s], argTypes := #[dT, sT] }) (elem : TypeId) (hu : P.underlying dT = some (.slice elem)) (sz : Nat) (hsz : (P.info? elem).map (·.size) = some sz)
    (g n dCap sCap B : Nat) (A : Option Addr) (t : TypeId) (cur : Array Value) (xs : List Value) (hd : a.eval d = .slice (some ⟨g, 0, none⟩) n dCap) (hs : a.eval s = .slice A n sCap)
    (hg : Blk w g t cur) (hcur : cur.size = n * sz) (hr : Reads w B sz A n xs) (h1 : ∀ v ∈ xs, v.oneCell' = true)
    (h : ∀ w', Hid (Blk w' g t xs.toArray) → w.grownBy w' (some g) → wpList P ops Q rest (a.put o.dst (goInt n)) w') :
    wpList P ops Q (o :: rest) a w := by
  refine wpList_plain hgd fun K hK => ?_
  have hl : xs.length = n * sz := hr.1
  have hmin : Nat.min n n = n := Nat.min_self n
  rcases Nat.eq_zero_or_pos n with h0 | h0
  · subst h0
    obtain rfl : xs = [] := List.eq_nil_of_length_eq_zero (by simpa using hl)
    obtain rfl : cur = #[] := Array.eq_empty_of_size_eq_zero (by simpa using hcur)
    cases A with
    | none =>
      have hrun := run_copy_noneS (P := P) w dT sT o.type elem sz 0 dCap sCap (some ⟨g, 0, none⟩) hu hsz
      unfold Oper.wp
      simp [execOp, ho, resolve, invoke, builtin, hd, hs, hrun, Result.andThen]
      exact hK _ _ (h w hg (World.grownBy.refl w _))
    | some ad =>
      have hrun := run_copy_rowS (P := P) w dT sT o.type elem sz g 0 0 dCap ad 0 sCap #[] t [] hu hsz hg (by simp) (by simp) (by simp) (by simp)
      unfold Oper.wp
      simp [execOp, ho, resolve, invoke, builtin, hd, hs, hrun, Result.andThen]
      exact hK _ _ (h _ (setRow_heap w g _ _ t _ hg) (grown_setRow w g _))
  · obtain ⟨ad, rfl, _, hc⟩ := hr.2 h0
    have hrun := run_copy_rowS (P := P) w dT sT o.type elem sz g 0 n dCap ad n sCap cur t xs hu hsz hg (by rw [hmin]; exact hl) hc (by omega) h1
    have e : (cur.toList.take 0 ++ xs ++ cur.toList.drop (0 + xs.length)).toArray = xs.toArray := by
      rw [List.drop_of_length_le (by simp; omega)]; simp
    rw [e, hmin] at hrun
    unfold Oper.wp
    simp only [execOp, ho, resolve, invoke, builtin, Sem.run_bind, Sem.run_pure, Result.andThen_ok, List.map_toArray, List.map_cons, List.map_nil, hd, hs, hrun]
    exact hK _ _ (h _ (setRow_heap w g _ _ t _ hg) (grown_setRow w g _))
end Go.Proofs.YtpgdlmnhomnblaaGreatDoor
namespace Go.Proofs.YtpgdlmnhomnblaaGreatDoor
open Go.RowKit
set_option linter.unusedVariables false
set_option linter.unusedSimpArgs false
section
variable {w w' : World} {P P' : Nat → Prop} {row : Option Nat} {sz n : Nat} {A : Option Addr} {xs : List Value}
def OffG (w : World) (P : Nat → Prop) (sz : Nat) (A : Option Addr) (n : Nat) (xs : List Value) : Prop :=
  Reads w w.heap.size sz A n xs ∧ (0 < n → ∀ ad, A = some ad → ¬ P ad.block)
def Stp (w w' : World) (P P' : Nat → Prop) (row : Option Nat) : Prop :=
  w.grownBy w' row ∧ (∀ q, row = some q → P q ∨ w.heap.size ≤ q) ∧ ∀ q, P' q → P q ∨ w.heap.size ≤ q
theorem Stp.of_below (hb : Below w.heap.size w w') : Stp w w' P P none := ⟨only_below (World.grownBy.refl w none) hb, fun q h => (by cases h), fun q h => .inl h⟩
theorem Stp.below' (hb : Below w.heap.size w w') (hP : ∀ q, P' q → P q ∨ w.heap.size ≤ q) : Stp w w' P P' none := ⟨only_below (World.grownBy.refl w none) hb, fun q h => (by cases h), hP⟩
theorem OffG.step (h : OffG w P sz A n xs) (s : Stp w w' P P' row) : OffG w' P' sz A n xs := by
  obtain ⟨hg, hr, hP⟩ := s
  refine ⟨⟨h.1.1, fun hn => ?_⟩, fun hn ad had => ?_⟩
  · obtain ⟨ad, had, hlt, hc⟩ := h.1.2 hn
    refine ⟨ad, had, Nat.lt_of_lt_of_le hlt hg.size, fun j u hu => hg.cell (hc j u hu) ?_⟩
    rw [block_of_add]
    intro e
    rcases hr _ e.symm with h1 | h1
    · exact h.2 hn ad had h1
    · omega
  · obtain ⟨ad', had', hlt, _⟩ := h.1.2 hn
    rw [had] at had'
    injection had' with had'
    subst had'
    intro hp
    rcases hP _ hp with h1 | h1
    · exact h.2 hn ad had h1
    · omega
theorem OffG.nil_ : OffG w P sz A 0 [] := ⟨⟨by simp, fun h => absurd h (by omega)⟩, fun h => absurd h (by omega)⟩
theorem OffG.of_own {B c : Nat} {t : TypeId} (h : w.ownsRow B t sz (.slice A n c) n xs) (hP : ∀ q, P q → q < B ∨ w.heap.size ≤ q) : OffG w P sz A n xs := by
  refine ⟨Reads.of_own h, fun h0 ad had => ?_⟩
  obtain ⟨q, cap, hv, hB, hq⟩ := h.form h0
  have hA : A = some ⟨q, 0, none⟩ := by injection hv
  rw [hA] at had
  injection had with had
  subst had
  have hlt := (h.lt q (by rw [hA]; rfl)).2
  intro e
  have e : P q := e
  rcases hP q e with h1 | h1
  · omega
  · omega
def OffS (w : World) (P : Nat → Prop) (sz : Nat) (v : Value) (n : Nat) (xs : List Value) : Prop := ∃ A c, v = .slice A n c ∧ n ≤ c ∧ OffG w P sz A n xs
theorem OffS.step {v : Value} (h : OffS w P sz v n xs) (s : Stp w w' P P' row) : OffS w' P' sz v n xs := by
  obtain ⟨A, c, e, h1, h2⟩ := h
  exact ⟨A, c, e, h1, h2.step s⟩
theorem OffS.of_own {B : Nat} {t : TypeId} {v : Value} (h : w.ownsRow B t sz v n xs) (hP : ∀ q, P q → q < B ∨ w.heap.size ≤ q) : OffS w P sz v n xs := by
  obtain ⟨A, c, rfl, h1, _, _⟩ := own_slice h
  exact ⟨A, c, rfl, h1, OffG.of_own h hP⟩
theorem OffS.one {v : Value} (h : OffS w P sz v n xs) : v.oneCell' = true := by
  obtain ⟨A, c, rfl, _⟩ := h; rfl
def AllS {α : Type} (f : α → List Value) (m : α → Nat) (w : World) (P : Nat → Prop) (sz : Nat) (us : List Value) (l : List α) : Prop :=
  ∀ (k : Nat) (r : α), l[k]? = some r → ∃ u, us[k]? = some u ∧ OffS w P sz u (m r) (f r)
section
variable {α : Type} {f : α → List Value} {m : α → Nat} {us : List Value} {l : List α}
theorem AllS.nil : AllS f m w P sz [] [] := fun k r h => by simp at h
theorem AllS.step (h : AllS f m w P sz us l) (s : Stp w w' P P' row) : AllS f m w' P' sz us l := fun k r hk => by
  obtain ⟨u, h1, h2⟩ := h k r hk
  exact ⟨u, h1, h2.step s⟩
theorem AllS.snoc {u : Value} {r : α} (h : AllS f m w P sz us l) (hl : us.length = l.length) (hu : OffS w P sz u (m r) (f r)) : AllS f m w P sz (us ++ [u]) (l ++ [r]) := by
  intro k q hk
  by_cases hlt : k < l.length
  · rw [List.getElem?_append_left hlt] at hk
    obtain ⟨v, h1, h2⟩ := h k q hk
    exact ⟨v, by rw [List.getElem?_append_left (by omega)]; exact h1, h2⟩
  · have hk2 : k < (l ++ [r]).length := (List.getElem?_eq_some_iff.1 hk).1
    have e : k = l.length := by simp at hk2; omega
    subst e
    rw [List.getElem?_append_right (Nat.le_refl _), Nat.sub_self] at hk
    injection hk with hk
    subst hk
    exact ⟨u, by rw [← hl, List.getElem?_append_right (Nat.le_refl _), Nat.sub_self]; rfl, hu⟩
end
end
end Go.Proofs.YtpgdlmnhomnblaaGreatDoor
namespace Go.Proofs.YtpgdlmnhomnblaaGreatDoor
open Go.RowKit
set_option linter.unusedVariables false
set_option linter.unusedSimpArgs false
set_option maxRecDepth 100000
section
variable {w : World} {A S : Option Addr} {n c m cs : Nat} {sl : List Cl} {rows : List (List Vl)}
set_option maxHeartbeats 1000000 in
theorem refusal_G (hS : Reads w w.heap.size 3 S m (cls sl)) (hm : m ≤ 140737488355328) (hV : VV w A rows) (hrn : rows.length = n) (hn : n ≤ 9223372036854775807) (hbig : ∀ r ∈ rows, r.length ≤ 140737488355328) :
    Calls Tryz.prog 16 #[.slice S m cs, .slice A n c] w fun e w' => e = .returned (.int .i64 (newE sl rows)) ∧ Below w.heap.size w w' := by
  have HSC := Lib.hid (schemaV_any S m cs sl w hS (by omega))
  have HSR := Lib.hid hS
  obtain ⟨us, hu, hus⟩ := hV
  rw [hrn] at hu
  have HE := Lib.hid hrn
  have HU := Lib.hid hus; have HBG := Lib.hid hbig
  have hN : newE sl rows = if scE sl ≠ 0 then scE sl else if rows.length < 1 ∨ 65536 < rows.length then 12 else rowsE sl rows := rfl
  have HN := Lib.hid hN
  clear hS hus hbig hN hrn
  go_enter Tryz.func16, Tryz.ntmps16
  go_wp2_with fail
  refine HSC.out.mono ?_
  rintro e w1 ⟨rfl, hd1⟩
  have HB1 := Lib.hid (hd1.below (Below.refl w.heap.size w))
  clear hd1 HSC
  by_cases hsc : scE sl = 0
  case neg =>
    rw [if_pos hsc] at HN
    obtain ⟨E, hE⟩ : ∃ E, scE sl = E := ⟨_, rfl⟩
    rw [hE] at hsc HN ⊢
    have q1 : (E == 0) = false := by simpa using hsc
    clear hE
    go_wp2_with fail
    go_ret
    exact ⟨by rw [HN.out]; rfl, HB1.out⟩
  rw [if_neg (by simpa using hsc)] at HN
  rw [hsc]
  clear hsc
  have hd1 : decide ((n : Int) < 1) = decide (n < 1) := by by_cases h : n < 1 <;> simp [h] <;> omega
  have hd2 : decide ((65536 : Int) < (n : Int)) = decide (65536 < n) := by by_cases h : 65536 < n <;> simp [h] <;> omega
  rw [HE.out] at HN
  by_cases h1 : n < 1 ∨ 65536 < n
  case pos =>
    rw [if_pos h1] at HN
    have hde : decide (n < 1) = false → decide (65536 < n) = true := fun h => by simp at h ⊢; omega
    obtain ⟨a, ha⟩ : ∃ a, decide (n < 1) = a := ⟨_, rfl⟩
    obtain ⟨b, hb⟩ : ∃ b, decide (65536 < n) = b := ⟨_, rfl⟩
    rw [ha] at hd1 hde
    rw [hb] at hd2 hde
    clear ha hb h1
    cases a with
    | true =>
      go_wp2_with fail
      go_ret
      exact ⟨by rw [HN.out]; rfl, HB1.out⟩
    | false =>
      obtain rfl : b = true := hde rfl
      go_wp2_with fail
      go_ret
      exact ⟨by rw [HN.out]; rfl, HB1.out⟩
  rw [if_neg h1] at HN
  have e1 : decide (n < 1) = false := by simp; omega
  have e2 : decide (65536 < n) = false := by simp; omega
  rw [e1] at hd1
  rw [e2] at hd2
  have hn2 : n ≤ 65536 := by omega
  clear e1 e2
  go_wp2_with fail
  go_loopw [24] (fun i wr => ∃ k : Nat, k ≤ n ∧ i = .int .i64 (k : Int) ∧ Below w.heap.size w wr ∧ ∀ r ∈ rows.take k, rwE sl r = 0) (fun i _ => n - (intOf i).toNat)
  case atStart => exact ⟨0, Nat.zero_le _, rfl, HB1.out, by simp⟩
  case round =>
    clear HB1
    obtain ⟨k, hk, rfl, hb, hok⟩ := hrel
    by_cases hlt : k < n
    · obtain ⟨r, hz⟩ : ∃ r, rows[k]? = some r := ⟨_, List.getElem?_eq_getElem (by rw [HE.out]; omega)⟩
      obtain ⟨u, hu1, A2, c2', rfl, hrr⟩ := HU.out k r hz
      obtain ⟨bb, oo, rfl, hbb, hcell⟩ := reads_plain2 hu (by omega) hu1
      have hck := (hb.cell (p := ⟨bb, oo + k, none⟩) hbb).trans (hcell k _ hu1)
      have hR := rowV_any S A2 m cs r.length c2' sl r wr ((HSR.out.below hb).more hb.size) ((hrr.below hb).more hb.size) hm (HBG.out r (List.mem_of_getElem? hz))
      have HT := Lib.hid (List.take_add_one (l := rows) (i := k)); have HZ := Lib.hid hz
      obtain ⟨l, hl⟩ : ∃ l, r.length = l := ⟨_, rfl⟩
      rw [hl] at hck hR
      have HFI := Lib.hid fun h => rowsE_first (s := sl) hok hz h
      obtain ⟨E, hE⟩ : ∃ E, rwE sl r = E := ⟨_, rfl⟩
      rw [hE] at hR HFI
      have HR := Lib.hid hR; have HEE := Lib.hid hE; have HOK := Lib.hid hok; have HB := Lib.hid hb
      clear hR hE hok hb hz hu1 hcell hrr hl hu
      go_wp2_with fail
      refine HR.out.mono ?_
      rintro e w4 ⟨rfl, hb4⟩
      have HA4 := Lib.hid (HB.out.trans (hb4.mono HB.out.size))
      clear hb4 HB HR
      by_cases h0 : E = 0
      · subst h0
        go_wp2_with fail
        go_round
        case rel =>
          refine ⟨k + 1, by omega, by go_num, HA4.out, fun q hq => ?_⟩
          rw [HT.out, HZ.out] at hq
          rcases List.mem_append.1 hq with hq | hq
          · exact HOK.out q hq
          · have : q = r := by simpa using hq
            rw [this]; exact HEE.out
        case measure => simp [intOf]; omega
      · have q1 : (E == 0) = false := by simpa using h0
        have HF := Lib.hid (HFI.out h0)
        go_wp2_with fail
        go_ret
        exact ⟨by rw [HN.out, HF.out]; rfl, HA4.out⟩
    · obtain rfl : k = n := by omega
      rw [List.take_of_length_le (by rw [HE.out]; exact Nat.le_refl _)] at hok
      have HF := Lib.hid (rowsE_zero hok)
      have HB := Lib.hid hb
      clear hok hb hu
      go_wp2_with fail
      go_ret
      exact ⟨by rw [HN.out, HF.out]; rfl, HB.out⟩
theorem vs_cells (l : List Vl) : ∀ u ∈ vs l, u.oneCell' = true := by
  intro u hu
  obtain ⟨v, hv, hu⟩ := List.mem_flatMap.1 hu
  exact vc_cell v u hu
theorem copied_V {l : List Vl} (hr : Reads w w.heap.size 3 A n (vs l)) (hn : n ≤ 65536) :
    Calls Tryz.prog 18 #[.slice A n c] w fun e w' => ∃ v, e = .returned v ∧ w'.ownsRow w.heap.size 51 3 v n (vs l) ∧ Below w.heap.size w w' := by
  have hmk := fun W => run_make_vals n (by omega) W
  have hln : l.length = n := by have := hr.1; rw [vs_length] at this; omega
  have HL := Lib.hid hln
  have K0 := Blk.new w 51 (vs (List.replicate n (0, 0, []))).toArray
  have hr1 := (hr.alloc (Nat.le_refl _) (.cells (vs (List.replicate n (0, 0, []))).toArray 51))
  have hsz : (vs (List.replicate n ((0 : Int), (0 : Int), ([] : Tx)))).toArray.size = n * 3 := by simp [vs_length]
  have B0 := (Below.refl w.heap.size w).alloc (Nat.le_refl _) (.cells (vs (List.replicate n (0, 0, []))).toArray 51)
  have hsv : (Tryz.prog.info? 51).map (·.size) = some 3 := by kernel_rfl
  obtain ⟨Z, hZ⟩ : ∃ Z, (vs (List.replicate n ((0 : Int), (0 : Int), ([] : Tx)))).toArray = Z := ⟨_, rfl⟩
  rw [hZ] at hmk K0 hr1 hsz B0
  have HK0 := Lib.hid K0; have HR1 := Lib.hid hr1; have HSZ := Lib.hid hsz; have HB0 := Lib.hid B0
  clear hr K0 hr1 hsz B0 hZ hln
  go_enter Tryz.func18, Tryz.ntmps18
  go_wp2_with (with_reducible refine wpList_copy_wholeS rfl (.tmp 7) (.tmp 8) _ _ rfl 51 Tryz.underlying49 3 hsv w.heap.size n n c w.heap.size A 51 Z (vs l) rfl rfl HK0.out HSZ.out HR1.out (vs_cells l) ?_; intro w2 HG2 hg2)
  go_ret
  exact ⟨_, rfl, own_whole3 HG2.out (Nat.le_refl _) HL.out (by unfold maxLen; omega), HB0.out.grown hg2 (by simp) (fun k hk => by injection hk with hk; omega)⟩
theorem column_G {ci : Nat} (hV : VV w A rows) (hrn : rows.length = n) (hn : n ≤ 65536) (hci : ci ≤ 65536) (hl : ∀ r ∈ rows, ci < r.length ∧ r.length ≤ 65536) :
    Calls Tryz.prog 19 #[.slice A n c, .int .i64 (ci : Int)] w fun e w' => ∃ v, e = .returned v ∧ w'.ownsRow w.heap.size 51 3 v n (vs (colV rows ci)) ∧ Below w.heap.size w w' := by
  have hmk := fun W => run_make_vals n (by omega) W
  have K0 := Blk.new w 51 (vs (List.replicate n (0, 0, []))).toArray
  have B0 := (Below.refl w.heap.size w).alloc (Nat.le_refl _) (.cells (vs (List.replicate n (0, 0, []))).toArray 51)
  have hcl : (colV rows ci).length = n := by rw [colV_length, hrn]
  rw [← fillV_zero (colV rows ci) n hcl] at K0 B0 hmk
  obtain ⟨us, hu, hus⟩ := hV
  rw [hrn] at hu
  have HE := Lib.hid hrn; have HU := Lib.hid hus; have HLN := Lib.hid hl; have HCL := Lib.hid hcl
  have HK0 := Lib.hid K0; have HB0 := Lib.hid B0
  clear hrn hus hl hcl K0 B0
  go_enter Tryz.func19, Tryz.ntmps19
  go_wp2_with fail
  go_loopw [6, 7, 13] (fun _ _ i wr => ∃ k : Nat, k ≤ n ∧ i = .int .i64 (k : Int) ∧ Blk wr w.heap.size 51 (fillV (colV rows ci) k) ∧ Below w.heap.size w wr) (fun _ _ i _ => n - (intOf i).toNat)
  case atStart => exact ⟨0, Nat.zero_le _, rfl, HK0.out, HB0.out⟩
  case round =>
    clear HK0 HB0
    obtain ⟨k, hk, rfl, hK, hb⟩ := hrel
    by_cases hlt : k < n
    · obtain ⟨r, hz⟩ : ∃ r, rows[k]? = some r := ⟨_, List.getElem?_eq_getElem (by rw [HE.out]; omega)⟩
      obtain ⟨u, hu1, A2, c2, rfl, hrr⟩ := HU.out k r hz
      obtain ⟨bb, oo, rfl, hbb, hcell⟩ := reads_plain2 hu (by omega) hu1
      have hck := (hb.cell (p := ⟨bb, oo + k, none⟩) hbb).trans (hcell k _ hu1)
      obtain ⟨hm1, hm2⟩ := HLN.out r (List.mem_of_getElem? hz)
      obtain ⟨⟨v0, v1, z⟩, hv⟩ : ∃ v, r[ci]? = some v := ⟨_, List.getElem?_eq_getElem hm1⟩
      obtain ⟨b', o', rfl, hb0', x0, x1, x2⟩ := (hrr.below hb).val hv
      have hval := hK.val (colV_at hz hv)
      have hsz := hb.size
      have z0 := hK.frozen (k * 3); have z1 := hK.frozen (k * 3 + 1); have z2 := hK.frozen (k * 3 + 2)
      obtain ⟨y0, y1, y2⟩ := fillV_old (colV rows ci) k k (Nat.le_refl _) (by rw [HCL.out]; exact hlt)
      have hc0 := (hK.cell (k * 3)).trans y0; have hc1 := (hK.cell (k * 3 + 1)).trans y1; have hc2 := (hK.cell (k * 3 + 2)).trans y2
      have hbv := ((hb.setCell (p := ⟨w.heap.size, k * 3, none⟩) (Nat.le_refl _) (.int .i64 v0)).setCell (p := ⟨w.heap.size, k * 3 + 1, none⟩) (Nat.le_refl _) (.int .i64 v1)).setCell (p := ⟨w.heap.size, k * 3 + 2, none⟩) (Nat.le_refl _) (.string ⟨z.toArray⟩)
      obtain ⟨m, hmm⟩ : ∃ m, r.length = m := ⟨_, rfl⟩
      rw [hmm] at hm1 hm2 hck
      have HVL := Lib.hid hval; have HBV := Lib.hid hbv
      clear hval hbv hK hb hrr hz hv hu hu1 hcell y0 y1 y2 hmm
      go_wp2_with fail
      go_round
      case rel => exact ⟨k + 1, by omega, by go_num, HVL.out, HBV.out⟩
      case measure => simp [intOf]; omega
    · obtain rfl : k = n := by omega
      rw [fillV_all _ k HCL.out] at hK
      have HOW := Lib.hid (own_whole3 hK (Nat.le_refl _) HCL.out (by unfold maxLen; omega))
      have HB := Lib.hid hb
      clear hK hb hu
      go_wp2_with fail
      go_ret
      exact ⟨_, rfl, HOW.out, HB.out⟩
end
end Go.Proofs.YtpgdlmnhomnblaaGreatDoor
namespace Go.Proofs.YtpgdlmnhomnblaaGreatDoor
set_option linter.unusedVariables false
set_option linter.unusedSimpArgs false
theorem txf_small (l : List Tx) (h : l.length ≤ 300) (hq : ∀ s ∈ l, s.length ≤ 65536) : (txf l).length ≤ 20000000 := by
  have h1 := lstT_length l
  have h2 := blbs_length (lstT l) 65536 (lstT_long hq)
  have h0 := (vb_length (lstT l).length).2
  have a1 : (hdT (lstT l)).length ≤ 19663810 := by
    unfold hdT
    rw [List.length_append]
    have : (65536 + 10) * (lstT l).length ≤ (65536 + 10) * 300 := Nat.mul_le_mul_left _ (by omega)
    omega
  have a2 : (packB (wd (plcT l)) (plcT l)).length ≤ 131073 := by
    rw [packB_length, plcT_length]
    have h3 := wd_plcT_le l (by omega)
    have h4 : l.length * wd (plcT l) ≤ 65536 * 16 := Nat.mul_le_mul (by omega) h3
    unfold sz; omega
  unfold txf; rw [List.length_append, List.length_append, List.length_singleton]; omega
theorem frm_small {way : Nat} {l : List Vl} (hl : l.length ≤ 300) (hi : ∀ v ∈ l, In64 v.2.1) (ht : ∀ v ∈ l, v.2.2.length ≤ 65536) : (frm way l).length ≤ 20000000 := by
  have h1 := ints_in hi
  have h2 := ints_length_le l
  have h3 := wrds_length_le l
  have h4 := wrds_short ht
  unfold frm
  split
  · have := (pl_length (ints l)).2; omega
  split
  · have := rf_length (runs (ints l)); have := rc_le (ints l); unfold rc at this; omega
  split
  · have := dl_length (ints l) (by omega); omega
  split
  · have := dc_length (ints l) (by omega); omega
  split
  · have := fo_length h1 (by omega); omega
  · exact txf_small _ (by omega) h4
theorem lyB_small {way : Nat} {l : List Vl} (hl : l.length ≤ 300) (hi : ∀ v ∈ l, In64 v.2.1) (ht : ∀ v ∈ l, v.2.2.length ≤ 65536) : (lyB l way).length ≤ 20010000 := by
  have h1 := frm_small (way := way) hl hi ht
  have h2 : (headB l).length ≤ 8194 := by
    unfold headB
    split
    · simp
    · rw [List.length_cons, setB_length]; unfold siz; omega
  unfold lyB
  rw [List.length_append, List.length_append, List.length_singleton]
  omega
theorem cpB_small {kd way : Int} {l : List Vl} (hl : l.length ≤ 300) (hi : ∀ v ∈ l, In64 v.2.1) (ht : ∀ v ∈ l, v.2.2.length ≤ 65536) : (cpB kd way l).length ≤ 20010000 ∧ ∀ b ∈ cpB kd way l, b < 256 := by
  by_cases h : cpE kd way l = 0
  · obtain ⟨_, _, h3, h4⟩ := cpE_ok h
    have h5 := ofW_range h3
    rw [h4]
    exact ⟨lyB_small hl hi ht, lyB_byte (by omega) (by omega) hi ht⟩
  · have : cpB kd way l = [] := by unfold cpB; rw [if_neg h]
    rw [this]
    simp
def chG (sl : List Cl) (rows : List (List Vl)) (c : Nat) : List Nat := cpB (sl.getD c (0, false, 0)).1 (sl.getD c (0, false, 0)).2.2 (colV rows c)
def chsG (sl : List Cl) (rows : List (List Vl)) (m : Nat) : List (List Nat) := (List.range m).map (chG sl rows)
def hdG (sl : List Cl) (rows : List (List Vl)) (c : Nat) : Zn × List Nat := (zoV (colV rows c), shaN (chG sl rows c))
def hdsG (sl : List Cl) (rows : List (List Vl)) (m : Nat) : List (Zn × List Nat) := (List.range m).map (hdG sl rows)
theorem chsG_succ (sl : List Cl) (rows : List (List Vl)) (m : Nat) : chsG sl rows (m + 1) = chsG sl rows m ++ [chG sl rows m] := by simp [chsG, List.range_succ]
theorem hdsG_succ (sl : List Cl) (rows : List (List Vl)) (m : Nat) : hdsG sl rows (m + 1) = hdsG sl rows m ++ [hdG sl rows m] := by simp [hdsG, List.range_succ]
theorem chsG_length (sl : List Cl) (rows : List (List Vl)) (m : Nat) : (chsG sl rows m).length = m := by simp [chsG]
theorem hdsG_length (sl : List Cl) (rows : List (List Vl)) (m : Nat) : (hdsG sl rows m).length = m := by simp [hdsG]
theorem col_in {rows : List (List Vl)} (h : ∀ r ∈ rows, ∀ v ∈ r, In64 v.1 ∧ In64 v.2.1) (c : Nat) : ∀ v ∈ colV rows c, In64 v.1 ∧ In64 v.2.1 := by
  intro v hv
  obtain ⟨r, hr, rfl⟩ := List.mem_map.1 hv
  rw [List.getD_eq_getElem?_getD]
  cases hc : r[c]? with
  | none => exact ⟨by unfold In64; simp, by unfold In64; simp⟩
  | some u => exact h r hr u (List.mem_of_getElem? hc)
theorem col_text {s : List Cl} {rows : List (List Vl)} (h : ∀ r ∈ rows, rwE s r = 0) {k : Nat} {c : Cl} (hc : s[k]? = some c) : ∀ v ∈ colV rows k, v.2.2.length ≤ 65536 := by
  intro v hv
  obtain ⟨r, hr, rfl⟩ := List.mem_map.1 hv
  have h1 := h r hr
  unfold rwE at h1
  split at h1
  · cases h1
  rename_i hl
  have hk := (List.getElem?_eq_some_iff.1 hc).1
  have hv : r[k]? = some (r[k]'(by omega)) := List.getElem?_eq_getElem _
  have h2 := colsE_each h1 hc hv
  rw [List.getD_eq_getElem?_getD, hv]
  unfold colE at h2
  split at h2
  · cases h2
  split at h2
  · cases h2
  · simp only [Option.getD_some]; omega
theorem row_len {s : List Cl} {r : List Vl} (h : rwE s r = 0) : r.length = s.length := by
  unfold rwE at h
  split at h
  · cases h
  · rename_i h1; omega
end Go.Proofs.YtpgdlmnhomnblaaGreatDoor
namespace Go.Proofs.YtpgdlmnhomnblaaGreatDoor
open Go.RowKit
set_option linter.unusedVariables false
set_option linter.unusedSimpArgs false
set_option maxRecDepth 100000
theorem blk3 {w : World} {g : Nat} {t : TypeId} {a b c : Value} (h : Blk w g t #[a, b, c]) : w.cell? ⟨g, 0, none⟩ = some a ∧ w.cell? ⟨g, 1, none⟩ = some b ∧ w.cell? ⟨g, 2, none⟩ = some c := ⟨h.cell 0, h.cell 1, h.cell 2⟩
end Go.Proofs.YtpgdlmnhomnblaaGreatDoor
namespace Go.Proofs.YtpgdlmnhomnblaaGreatDoor
open Go.RowKit
set_option linter.unusedVariables false
set_option linter.unusedSimpArgs false
set_option maxRecDepth 100000
def Apart (A : Option Addr) (g : Nat) : Prop := ∀ ad, A = some ad → ad.block ≠ g
theorem Apart.none_ (g : Nat) : Apart none g := fun ad h => by cases h
theorem Reads.off {w w' : World} {size n g : Nat} {A : Option Addr} {xs : List Value} (h : Reads w w.heap.size size A n xs) (hg : w.grownBy w' (some g)) (hne : Apart A g) : Reads w' w'.heap.size size A n xs := by
  refine ⟨h.1, fun hn => ?_⟩
  obtain ⟨ad, had, hlt, hc⟩ := h.2 hn
  refine ⟨ad, had, Nat.lt_of_lt_of_le hlt hg.size, fun j u hu => hg.cell (hc j u hu) ?_⟩
  rw [block_of_add]
  intro e
  injection e with e
  exact hne ad had e
theorem reads3 (w : World) (t : TypeId) (a b c : Value) : Reads (w.alloc (.cells #[a, b, c] t)) (w.heap.size + 1) 3 (some ⟨w.heap.size, 0, none⟩) 1 [a, b, c] := by
  refine ⟨rfl, fun _ => ⟨_, rfl, Nat.lt_succ_self _, fun j u hu => ?_⟩⟩
  rw [plain_add, Nat.zero_add, (Blk.new w t #[a, b, c]).cell]
  simpa using hu
end Go.Proofs.YtpgdlmnhomnblaaGreatDoor
