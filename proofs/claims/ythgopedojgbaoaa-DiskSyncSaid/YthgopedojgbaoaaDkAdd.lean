/- Contract of package disk's add. -/
import Derived.Test.YthgopedojgbaoaaDkCut
namespace Go.Proofs.Ythgopedojgbaoaa
open Go.RowKit Go.Maps Go.WideMaps
set_option linter.unusedVariables false
set_option linter.unusedSimpArgs false
set_option maxRecDepth 100000

/-- What a deed answers, and leaves. -/
def Ans (w : World) (X : Nat → Prop) (d : Nat) (r : Nat × St) (e : Ending) (w' : World) : Prop := e = .returned (.int .i64 (r.1 : Int)) ∧ Did w X d r.2 w'
def more (X : Nat → Prop) (w w' : World) : Nat → Prop := fun i => X i ∨ (w.heap.size ≤ i ∧ i < w'.heap.size)
section
variable {w w1 : World} {X : Nat → Prop} {d m : Nat} {D : DataW Unit} {C : Nat → Value} {S : St}
theorem DskAt.recell (h : DskAt w X d m D C S) {C' : Nat → Value} (hC : ∀ k b, At D k b → C' b = C b) : DskAt w X d m D C' S where
  obj := h.obj
  map := h.map
  sz := h.sz
  xd := h.xd
  xm := h.xm
  lt := h.lt
  has := h.has
  fs k f hf := by
    obtain ⟨b, a, hF⟩ := h.fs k f hf
    exact ⟨b, a, by rw [hC k b a]; exact hF⟩
  inj := h.inj
  rows k k' b b' g a a' e e' := h.rows k k' b b' g a a' (by rw [← hC k b a]; exact e) (by rw [← hC k' b' a']; exact e')
theorem DskAt.grow (h : DskAt w X d m D C S) {k : List UInt8} {b : Nat} {f : Fl} (hat : At D k b) (hf : S.V k = some f) {x : List Nat} {v' : Value}
    (hown : w1.ownsRow 0 5 1 v' (f.1.length + x.length) (bs f.1 ++ bs x)) (hg : w.grownBy w1 (C b).ownBlock) (hv : v'.ownBlock = (C b).ownBlock ∨ v'.ownBlock = some w.heap.size) (z : Int) (hz : z = (S.used : Int) + (x.length : Int)) :
    DskAt ((w1.setCell ⟨b, 0, none⟩ v').setCell ⟨d, 1, none⟩ (.int .i64 z)) (more X w w1) d m D (fun i => if i = b then v' else C i) (S.put k f x) ∧
      Step w X ((w1.setCell ⟨b, 0, none⟩ v').setCell ⟨d, 1, none⟩ (.int .i64 z)) (more X w w1) := by
  obtain ⟨f0, hf0, hb⟩ := h.some_of hat
  rw [hf] at hf0
  cases hf0
  have hlt := h.lt
  have hbo : some b ≠ (C b).ownBlock := fun e => hb.g_ne_b hb b e.symm rfl
  have hsz := hg.size
  have hF : FileIn (w1.setCell ⟨b, 0, none⟩ v') (more X w w1) v' b (f.1 ++ x, f.2) := by
    refine ⟨.inl hb.x, ?_, ?_, fun g e => ?_⟩
    · have := (hb.blk.grown hg hbo).set_ 0 v'
      exact this
    · show World.ownsRow _ _ _ _ _ (f.1 ++ x).length (bs (f.1 ++ x))
      rw [bs_append, List.length_append]
      refine own_keep hown (fun g e => Below.heap_setCell _ _ _ _ ?_)
      show g ≠ b
      rcases hv with hv | hv
      · exact hb.g_ne_b hb g (hv.symm.trans e)
      · rw [hv] at e; injection e with e
        have := hlt b hb.x
        omega
    · rcases hv with hv | hv
      · exact .inl (hb.row g (hv.symm.trans e))
      · obtain ⟨cur, hc⟩ := own_heap hown e
        rw [hv] at e; injection e with e
        subst e
        exact .inr ⟨Nat.le_refl _, (Array.getElem?_eq_some_iff.1 hc).1⟩
  have h1 := h.setFile (w' := w1.setCell ⟨b, 0, none⟩ v') (X' := more X w w1) hat (by simpa [World.setCell] using hsz) (fun _ e => .inl e) (fun i hi => by
    have e0 : (w1.setCell ⟨b, 0, none⟩ v').heap.size = w1.heap.size := by simp [World.setCell]
    rw [e0]
    rcases hi with hi | hi
    · have := hlt i hi; omega
    · exact hi.2) (fun i hi hne hno => (Below.heap_setCell _ _ _ _ hne).trans (hg.block i (hlt i hi) (fun e => hno e.symm))) hF (fun g e => by
    rcases hv with hv | hv
    · exact .inl (hv.symm.trans e)
    · rw [hv] at e; injection e with e
      exact .inr (fun hx => by have := hlt g hx; omega))
  have h2 := h1.setObj (w' := (w1.setCell ⟨b, 0, none⟩ v').setCell ⟨d, 1, none⟩ (.int .i64 z)) (S' := S.put k f x) (by simp [World.setCell]) (fun i _ hi => Below.heap_setCell _ _ _ _ hi)
    (by
      have := h1.obj.set_ 1 (.int .i64 z)
      rw [hz] at this ⊢
      exact this) rfl rfl
  refine ⟨h2, ?_⟩
  refine Step.widen (X1 := X) ((((Step.refl w X).grown hg (fun g e => .inl (hb.row g e))).setCell hb.x _).setCell h.xd _) (fun i hi => ?_)
  rcases hi with hi | hi
  · exact .inl hi
  · exact .inr hi.1
theorem Ans.of (h : DskAt w1 X d m D C S) (hok : S.ok) {w0 : World} {X0 : Nat → Prop} (hs : Step w0 X0 w1 X) {n : Nat} : Ans w0 X0 d (n, S) (.returned (.int .i64 (n : Int))) w1 := ⟨rfl, X, ⟨hok, m, D, C, h⟩, hs⟩
theorem DskAt.drawn (h : DskAt w X d m D C S) (hd : Drawn w w1) : DskAt w1 X d m D C S := by
  obtain ⟨q, rfl⟩ := hd
  exact h.keep (Nat.le_refl _) (fun _ _ => rfl)
theorem len_map (h : DskAt w X d m D C S) (ty : TypeId) : (Builtin.len_ #[50] ty #[.map (some m)]).run Try.prog w = .ok (.int .i64 (S.n : Int)) w := by
  have := h.map.len Try.underlying50 ty
  rw [h.sz] at this
  exact this

theorem add_no (h : DskAt w X d m D C S) (hok : S.ok) (s : ByteArray) (A : Option Addr) (n c : Nat) (x : List Nat) (hn : nm s.data.toList = false) :
    Calls Try.prog 24 #[.pointer (some ⟨d, 0, none⟩), .string s, .slice A n c] w (Ans w X d (S.add s.data.toList x)) := by
  have he : S.add s.data.toList x = (1, S) := by unfold St.add; rw [if_pos hn]
  rw [he]
  go_enter Try.func24, Try.ntmps24
  go_wp2_with fail
  refine (find_no h s hn).mono ?_
  rintro e w1 ⟨rfl, hd⟩
  go_wp2_with fail
  go_ret
  exact Ans.of (h.drawn hd) hok (Step.of_drawn hd X)
theorem add_many (h : DskAt w X d m D C S) (hok : S.ok) (s : ByteArray) (A : Option Addr) (n c : Nat) (x : List Nat) (hn : nm s.data.toList = true) (hv : S.V s.data.toList = none) (hc : S.n = 65536) :
    Calls Try.prog 24 #[.pointer (some ⟨d, 0, none⟩), .string s, .slice A n c] w (Ans w X d (S.add s.data.toList x)) := by
  have he : S.add s.data.toList x = (12, S) := by unfold St.add; rw [if_neg (by simp [hn]), hv]; exact if_pos hc
  rw [he]
  clear he
  go_enter Try.func24, Try.ntmps24
  go_wp2_with fail
  refine (find_none h s hn hv).mono ?_
  rintro e w1 ⟨rfl, hd⟩
  have h1 := h.drawn hd
  have c2 := h1.cells.2.2.1
  have hl := fun ty => len_map h1 ty
  rw [hc] at hl
  clear hc hv
  go_wp2_with fail
  go_ret
  exact Ans.of h1 hok (Step.of_drawn hd X)
theorem len_of (x : List Nat) (n : Nat) {A : Option Addr} {B : Nat} (hr : Reads w B 1 A n (bs x)) : x.length = n := by have := hr.1; rw [bs_length] at this; omega
theorem add_full_new (h : DskAt w X d m D C S) (hok : S.ok) (s : ByteArray) (A : Option Addr) (n c : Nat) (x : List Nat) (hx : x.length = n) (hm : n ≤ maxLen) (hn : nm s.data.toList = true) (hv : S.V s.data.toList = none) (hc : S.n ≠ 65536) (hf : S.room - S.used < n) :
    Calls Try.prog 24 #[.pointer (some ⟨d, 0, none⟩), .string s, .slice A n c] w (Ans w X d (S.add s.data.toList x)) := by
  have he : S.add s.data.toList x = (7, S) := by unfold St.add; rw [if_neg (by simp [hn]), hv]; exact (if_neg hc).trans (if_pos (by omega))
  rw [he]
  clear he
  unfold maxLen at hm
  have hle := hok.le
  have hro := hok.room
  have hcn := hok.cnt
  have hce : ((S.n : Int) == 65536) = false := by simp; omega
  obtain ⟨r, hr⟩ : ∃ r, S.room = r := ⟨_, rfl⟩
  obtain ⟨u, hu⟩ : ∃ u, S.used = u := ⟨_, rfl⟩
  have hlt : (r : Int) - (u : Int) < (n : Int) := by omega
  rw [hr] at hle hro hf
  rw [hu] at hle hf
  go_enter Try.func24, Try.ntmps24
  go_wp2_with fail
  refine (find_none h s hn hv).mono ?_
  rintro e w1 ⟨rfl, hd⟩
  have h1 := h.drawn hd
  obtain ⟨c0, c1, c2, c3, c4⟩ := h1.cells
  rw [hr] at c0
  rw [hu] at c1
  have hl := fun ty => len_map h1 ty
  have HR := Lib.hid hr
  have HU := Lib.hid hu
  have HX := Lib.hid hx
  clear hr hu hx
  go_wp2_with fail
  go_quiet (fail)
  go_wp2_with fail
  go_ret
  rename_i q
  exact Ans.of (h1.drawn ⟨_, rfl⟩) hok (Step.of_drawn (hd.more _) X)
theorem add_full_old (h : DskAt w X d m D C S) (hok : S.ok) (s : ByteArray) (A : Option Addr) (n c : Nat) (x : List Nat) (hx : x.length = n) (hm : n ≤ maxLen) (hn : nm s.data.toList = true) {b : Nat} {f : Fl} (hat : At D s.data.toList b) (hv : S.V s.data.toList = some f) (hf : S.room - S.used < n) :
    Calls Try.prog 24 #[.pointer (some ⟨d, 0, none⟩), .string s, .slice A n c] w (Ans w X d (S.add s.data.toList x)) := by
  have he : S.add s.data.toList x = (7, S) := by unfold St.add; rw [if_neg (by simp [hn]), hv]; exact if_pos (by omega)
  rw [he]
  clear he
  unfold maxLen at hm
  have hle := hok.le
  have hro := hok.room
  obtain ⟨r, hr⟩ : ∃ r, S.room = r := ⟨_, rfl⟩
  obtain ⟨u, hu⟩ : ∃ u, S.used = u := ⟨_, rfl⟩
  have hlt : (r : Int) - (u : Int) < (n : Int) := by omega
  rw [hr] at hle hro hf
  rw [hu] at hle hf
  go_enter Try.func24, Try.ntmps24
  go_wp2_with fail
  refine (find_some h s hn hat).mono ?_
  rintro e w1 ⟨rfl, hd⟩
  have h1 := h.drawn hd
  obtain ⟨c0, c1, c2, c3, c4⟩ := h1.cells
  rw [hr] at c0
  rw [hu] at c1
  have HR := Lib.hid hr
  have HU := Lib.hid hu
  have HX := Lib.hid hx
  clear hr hu hx
  go_wp2_with fail
  go_quiet (fail)
  go_wp2_with fail
  go_ret
  exact Ans.of (h1.drawn ⟨_, rfl⟩) hok (Step.of_drawn (hd.more _) X)
end
end Go.Proofs.Ythgopedojgbaoaa
