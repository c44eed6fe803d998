/- Contracts of package disk's change, Append, Sync, Rename, Delete, Cut. -/
import Derived.Test.YthgopedojgbaoaaDkDeed
namespace Go.Proofs.Ythgopedojgbaoaa
open Go.RowKit Go.Maps Go.WideMaps Go.ChangeMaps
set_option linter.unusedVariables false
set_option linter.unusedSimpArgs false
set_option maxRecDepth 100000

section
variable {w w1 : World} {X X1 : Nat → Prop} {d m : Nat} {D : DataW Unit} {C : Nat → Value} {S : St}
/-- Bytes that are handed in: they lie apart from the disk. -/
structure Src (w : World) (X : Nat → Prop) (A : Option Addr) (n : Nat) (x : List Nat) : Prop where
  rd : Reads w w.heap.size 1 A n (bs x)
  off : 0 < n → ∀ ad, A = some ad → ¬ X ad.block
  byte : ∀ b ∈ x, b < 256
  le : n ≤ maxLen
theorem Reads.cells {B n : Nat} {A : Option Addr} {xs : List Value} (h : Reads w B 1 A n xs) (hk : 0 < n → ∀ ad j, A = some ad → ad.block < B → w1.cell? (ad.add j) = w.cell? (ad.add j)) : Reads w1 B 1 A n xs :=
  ⟨h.1, fun hn => by
    obtain ⟨ad, e, hb, hc⟩ := h.2 hn
    exact ⟨ad, e, hb, fun j u hu => (hk hn ad j e hb).trans (hc j u hu)⟩⟩
theorem Src.step {A : Option Addr} {n : Nat} {x : List Nat} (h : Src w X A n x) (hs : Step w X w1 X1) : Src w1 X1 A n x := by
  refine ⟨(Reads.cells h.rd fun hn ad j e hb => hs.cell (by rw [block_of_add]; exact hb) (by rw [block_of_add]; exact h.off hn ad e)).more hs.size, fun hn ad e hX => ?_, h.byte, h.le⟩
  rcases hs.new _ hX with h1 | h1
  · exact h.off hn ad e h1
  · obtain ⟨ad', e', hb, _⟩ := h.rd.2 hn
    rw [e] at e'
    cases e'
    omega

theorem run_enter {f : FuncId} {fn : Func} {c : Code} (hf : Try.prog.funcs[f]? = some fn) (hname : (fn.name == "runtime.NumGoroutine") = false) (hb : fn.body = some c) : Enters f := fun args w => by
  have h1 : fn.name ≠ "runtime.NumGoroutine" := by simpa using hname
  simp [callFunc, hf, h1, hb]
theorem enters_append : Enters 23 := run_enter Try.func23 (by kernel_rfl) rfl
theorem enters_change1 : Enters 40 := run_enter Try.func40 (by kernel_rfl) rfl
theorem enters_change2 : Enters 41 := run_enter Try.func41 (by kernel_rfl) rfl
theorem enters_sync : Enters 27 := run_enter Try.func27 (by kernel_rfl) rfl
theorem enters_rename : Enters 33 := run_enter Try.func33 (by kernel_rfl) rfl
theorem enters_delete : Enters 36 := run_enter Try.func36 (by kernel_rfl) rfl
theorem enters_cut : Enters 37 := run_enter Try.func37 (by kernel_rfl) rfl
theorem hmf (fn : Fn) (first cap : Array Value) (w : World) : (Instr.makeFunc fn first cap).run Try.prog w = .ok (.func fn first cap) w := by rfl

/-- What a deed on a file that is there does. -/
def ActOk (w : World) (X : Nat → Prop) (d : Nat) (k : List UInt8) (F : FuncId) (c : Array Value) (act : St → Fl → Nat × St) (T : St) : Prop :=
  ∀ w1 m D C b f, T.ok → DskAt w1 X d m D C T → Step w X w1 X → At D k b → T.V k = some f → Calls Try.prog F (#[.pointer (some ⟨b, 0, none⟩)] ++ c) w1 (Ans w1 X d (act T f))
theorem ActOk.step {k : List UInt8} {F : FuncId} {c : Array Value} {act : St → Fl → Nat × St} {T : St} (h : ActOk w X d k F c act T) (hs : Step w X w1 X) : ActOk w1 X d k F c act T :=
  fun w2 m D C b f ho hD hs2 ha hf => h w2 m D C b f ho hD (hs.trans hs2) ha hf
theorem change1_any (a1 a2 a3 : Nat) (s : ByteArray) (F : FuncId) (c : Array Value) (hE : Enters F) (act : St → Fl → Nat × St) (h : Dsk w X d S) (ha : ActOk w X d s.data.toList F c act S)
    (c1 : w.cell? ⟨a1, 0, none⟩ = some (.pointer (some ⟨d, 0, none⟩))) (c2 : w.cell? ⟨a2, 0, none⟩ = some (.string s)) (c3 : w.cell? ⟨a3, 0, none⟩ = some (.func (.func F) #[] c)) :
    Calls Try.prog 40 #[.pointer (some ⟨a1, 0, none⟩), .pointer (some ⟨a2, 0, none⟩), .pointer (some ⟨a3, 0, none⟩)] w (Ans w X d (S.on s.data.toList act)) := by
  obtain ⟨hok, m, D, C, h⟩ := h
  unfold Enters at hE
  cases hn : nm s.data.toList with
  | false =>
    have he : S.on s.data.toList act = (1, S) := by unfold St.on; rw [if_pos hn]
    rw [he]
    clear he
    go_enter Try.func40, Try.ntmps40
    go_wp2_with fail
    refine (find_no h s hn).mono ?_
    rintro e w1 ⟨rfl, hd⟩
    go_wp2_with fail
    go_ret
    exact Ans.of (h.drawn hd) hok (Step.of_drawn hd X)
  | true =>
    cases hv : S.V s.data.toList with
    | none =>
      have he : S.on s.data.toList act = (8, S) := by unfold St.on; rw [if_neg (by simp [hn]), hv]
      rw [he]
      clear he
      go_enter Try.func40, Try.ntmps40
      go_wp2_with fail
      refine (find_none h s hn hv).mono ?_
      rintro e w1 ⟨rfl, hd⟩
      go_wp2_with fail
      go_ret
      exact Ans.of (h.drawn hd) hok (Step.of_drawn hd X)
    | some f =>
      obtain ⟨b, hat, _⟩ := h.fs _ f hv
      have he : S.on s.data.toList act = act S f := by unfold St.on; rw [if_neg (by simp [hn]), hv]
      rw [he]
      obtain ⟨r, hr⟩ : ∃ r, act S f = r := ⟨_, rfl⟩
      have hcall := fun (w1 : World) (hd : Drawn w w1) => ha w1 m D C b f hok (h.drawn hd) (Step.of_drawn hd X) hat hv
      rw [hr] at hcall ⊢
      have HC := Lib.hid hcall
      clear he hr hv hcall
      go_enter Try.func40, Try.ntmps40
      go_wp2_with fail
      refine (find_some h s hn hat).mono ?_
      rintro e w1 ⟨rfl, hd⟩
      have p3 : w1.cell? ⟨a3, 0, none⟩ = some (.func (.func F) #[] c) := by obtain ⟨q, rfl⟩ := hd; exact c3
      go_wp2_with fail
      refine (HC.out w1 hd).mono ?_
      rintro e w2 ⟨rfl, h2⟩
      go_wp2_with fail
      go_ret
      exact ⟨rfl, h2.from (Step.of_drawn hd X)⟩
theorem change2_any (w : World) : Calls Try.prog 41 #[] w fun e w' => e = .returned (.int .i64 0) ∧ Drawn w w' := by
  go_enter Try.func41, Try.ntmps41
  go_wp2_with fail
  go_ret
  exact ⟨rfl, Drawn.refl _⟩
theorem Step.at_ (hs : Step w X w1 X1) {p : Addr} {v : Value} (hp : w.cell? p = some v) (hb : p.block < w.heap.size) (hX : ¬ X p.block) : w1.cell? p = some v := (hs.cell hb hX).trans hp
/-- Three boxes, one behind the other. -/
def box3 (w : World) (v1 v2 v3 : Value) (t1 t2 t3 : TypeId) : World := ((w.alloc (.cells #[v1] t1)).alloc (.cells #[v2] t2)).alloc (.cells #[v3] t3)
theorem box3_cells (w : World) (v1 v2 v3 : Value) (t1 t2 t3 : TypeId) : (box3 w v1 v2 v3 t1 t2 t3).cell? ⟨w.heap.size, 0, none⟩ = some v1 ∧ (box3 w v1 v2 v3 t1 t2 t3).cell? ⟨w.heap.size + 1, 0, none⟩ = some v2 ∧ (box3 w v1 v2 v3 t1 t2 t3).cell? ⟨w.heap.size + 2, 0, none⟩ = some v3 := by
  have b1 := ((Blk.new w t1 #[v1]).alloc (.cells #[v2] t2)).alloc (.cells #[v3] t3)
  have b2 := (Blk.new (w.alloc (.cells #[v1] t1)) t2 #[v2]).alloc (.cells #[v3] t3)
  have b3 := Blk.new ((w.alloc (.cells #[v1] t1)).alloc (.cells #[v2] t2)) t3 #[v3]
  simp only [World.size_alloc] at b2 b3
  exact ⟨b1.cell 0, b2.cell 0, b3.cell 0⟩
theorem box3_size (w : World) (v1 v2 v3 : Value) (t1 t2 t3 : TypeId) : (box3 w v1 v2 v3 t1 t2 t3).heap.size = w.heap.size + 3 := by simp [box3]
theorem change_any (h : Dsk w X d S) (s : ByteArray) (F : FuncId) (c : Array Value) (hE : Enters F) (act : St → Fl → Nat × St) (ha : ActOk w X d s.data.toList F c act S.tick) :
    Calls Try.prog 26 #[.pointer (some ⟨d, 0, none⟩), .string s, .func (.func F) #[] c] w (Ans w X d (S.deed (fun T => T.on s.data.toList act) (fun T => (0, T)))) := by
  obtain ⟨k1, k2, k3⟩ := box3_cells w (.pointer (some ⟨d, 0, none⟩)) (.string s) (.func (.func F) #[] c) 24 9 59
  have ksz := box3_size w (.pointer (some ⟨d, 0, none⟩)) (.string s) (.func (.func F) #[] c) 24 9 59
  have hlt := h.lt
  have hD := ((h.alloc (.cells #[.pointer (some ⟨d, 0, none⟩)] 24)).alloc (.cells #[.string s] 9)).alloc (.cells #[.func (.func F) #[] c] 59)
  have hst := (((Step.refl w X).alloc (.cells #[.pointer (some ⟨d, 0, none⟩)] 24)).alloc (.cells #[.string s] 9)).alloc (.cells #[.func (.func F) #[] c] 59)
  have hnx : ∀ i, w.heap.size ≤ i → ¬ X i := fun i hi e => by have := hlt i e; omega
  have hdeed := deed_any (F1 := 40) (F2 := 41) (c1 := #[.pointer (some ⟨w.heap.size, 0, none⟩), .pointer (some ⟨w.heap.size + 1, 0, none⟩), .pointer (some ⟨w.heap.size + 2, 0, none⟩)]) (c2 := #[]) hD (fun T => T.on s.data.toList act) (fun T => (0, T))
    (fun w1 h1 hs1 => change1_any (w.heap.size) (w.heap.size + 1) (w.heap.size + 2) s F c hE act h1 (ha.step (hst.trans hs1))
      (hs1.at_ k1 (by show w.heap.size < (box3 _ _ _ _ _ _ _).heap.size; rw [ksz]; omega) (hnx _ (Nat.le_refl _)))
      (hs1.at_ k2 (by show w.heap.size + 1 < (box3 _ _ _ _ _ _ _).heap.size; rw [ksz]; omega) (hnx _ (by show w.heap.size ≤ w.heap.size + 1; omega)))
      (hs1.at_ k3 (by show w.heap.size + 2 < (box3 _ _ _ _ _ _ _).heap.size; rw [ksz]; omega) (hnx _ (by show w.heap.size ≤ w.heap.size + 2; omega))))
    (fun w1 h1 hs1 => (change2_any w1).mono (fun e w2 ⟨he, hd⟩ => ⟨0, he, Did.none h1 hd⟩)) enters_change1 enters_change2
  obtain ⟨r, hr⟩ : ∃ r, S.deed (fun T => T.on s.data.toList act) (fun T => (0, T)) = r := ⟨_, rfl⟩
  rw [hr] at hdeed ⊢
  have hf := hmf
  have HD := Lib.hid hdeed
  have HST := Lib.hid hst
  clear hr hdeed hst hD k1 k2 k3 ksz hnx hlt ha h hE
  go_enter Try.func26, Try.ntmps26
  go_wp2_with fail
  refine HD.out.mono ?_
  rintro e w2 ⟨rfl, h2⟩
  go_wp2_with fail
  go_ret
  exact ⟨rfl, h2.from HST.out⟩
end
end Go.Proofs.Ythgopedojgbaoaa
