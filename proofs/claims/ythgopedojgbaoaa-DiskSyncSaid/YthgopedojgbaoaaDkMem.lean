/- A disk in memory: the object, its map of pointers, the files, their bytes; what stays when one of them changes. No condition. -/
import Derived.Maps.OwnSet
import Derived.Test.YthgopedojgbaoaaDkPlain
import Derived.Test.YthgopedojgbaoaaMem
namespace Go.Proofs.Ythgopedojgbaoaa
open Go.RowKit Go.Maps
set_option linter.unusedVariables false
set_option linter.unusedSimpArgs false
set_option maxRecDepth 100000

/-- How a pointer to a block's beginning reads. -/
def ptrR : Value → Option (DataW Unit × List MemPlace)
  | .pointer none => some (.nil, [])
  | .pointer (some a) => if a = ⟨a.block, 0, none⟩ then some (.lit (.int .i64 (a.block : Int)), []) else none
  | _ => none
theorem ptrR_nil : ptrR (.pointer none) = some (.nil, []) := rfl
theorem ptrR_mk (b : Nat) : ptrR (.pointer (some ⟨b, 0, none⟩)) = some (.lit (.int .i64 (b : Int)), []) := by simp [ptrR]
theorem ptrR_inv {v : Value} {b : Nat} {ps : List MemPlace} (h : ptrR v = some (.lit (.int .i64 (b : Int)), ps)) : v = .pointer (some ⟨b, 0, none⟩) := by
  unfold ptrR at h
  split at h
  · simp at h
  · rename_i a
    split at h
    · rename_i ha
      simp at h
      rw [ha]
      have : a.block = b := by omega
      rw [this]
    · cases h
  · cases h
theorem ptrR_none {v : Value} {ps : List MemPlace} (h : ptrR v = some (.nil, ps)) : v = .pointer none := by
  unfold ptrR at h
  split at h
  · rfl
  · split at h <;> simp at h
  · cases h
theorem kS : Keyed Try.prog 9 := string_keyed Try.underlying9
theorem zeroF (w : World) : (zeroValue 56).run Try.prog w = .ok (.pointer none) w := by kernel_rfl

def At (D : DataW Unit) (k : List UInt8) (b : Nat) : Prop := D.atKey (.string k) .nil = .lit (.int .i64 (b : Int))
theorem At.one {D : DataW Unit} {k : List UInt8} {b b' : Nat} (h : At D k b) (h' : At D k b') : b = b' := by
  unfold At at h h'
  rw [h] at h'
  simp at h'
  omega
theorem isk (k : List UInt8) : Go.WideAt.IsKeyLit (Lit.string k) := trivial
theorem str_ne {k k' : List UInt8} (h : k' ≠ k) : Lit.string k' ≠ Lit.string k := fun e => h (by injection e)
theorem At.del {D : DataW Unit} {k k' : List UInt8} {b : Nat} : At (D.del (.string k)) k' b ↔ k' ≠ k ∧ At D k' b := by
  unfold At
  by_cases h : k' = k
  · subst h
    rw [atKey_del_same]
    simp
  · rw [atKey_del_other (str_ne h)]
    simp [h]
theorem At.put {D : DataW Unit} (hD : IsMap D) {k k' : List UInt8} {b b' : Nat} : At (D.put (.string k) (.lit (.int .i64 (b : Int)))) k' b' ↔ (k' = k ∧ b' = b) ∨ (k' ≠ k ∧ At D k' b') := by
  unfold At
  by_cases h : k' = k
  · subst h
    rw [atKey_put_same hD (isk _)]
    simp
    omega
  · rw [atKey_put_other (str_ne h)]
    simp [h]

abbrev TD : TypeId := 52
abbrev TF : TypeId := 58
/-- The file 'f' lies in block 'b', its bytes where 'v' says. -/
structure FileIn (w : World) (X : Nat → Prop) (v : Value) (b : Nat) (f : Fl) : Prop where
  x : X b
  blk : Blk w b 58 #[v, .int .i64 (f.2 : Int)]
  own : w.ownsRow 0 5 1 v f.1.length (bs f.1)
  row : ∀ g, v.ownBlock = some g → X g
def objOf (m : Nat) (S : St) : Array Value := #[.int .i64 (S.room : Int), .int .i64 (S.used : Int), .map (some m), .int .i64 S.fuse, .bool S.down]
/-- The disk 'S' lies in block 'd', all of it in blocks of X. -/
structure DskAt (w : World) (X : Nat → Prop) (d m : Nat) (D : DataW Unit) (C : Nat → Value) (S : St) : Prop where
  obj : Blk w d 52 (objOf m S)
  map : w.ownsMap Try.prog 9 ptrR m S.n D
  sz : Maps.size D = S.n
  xd : X d
  xm : X m
  lt : ∀ i, X i → i < w.heap.size
  has : ∀ k, Maps.has D (.string k) = (S.V k).isSome
  fs : ∀ k f, S.V k = some f → ∃ b, At D k b ∧ FileIn w X (C b) b f
  inj : ∀ k k' b, At D k b → At D k' b → k = k'
  rows : ∀ k k' b b' g, At D k b → At D k' b' → (C b).ownBlock = some g → (C b').ownBlock = some g → b = b'

theorem blk_ne {w : World} {g g' : Nat} {t t' : TypeId} {cs cs' : Array Value} {fr : Nat × Nat} (h : w.heap[g]? = some (.cells cs t fr)) (h' : w.heap[g']? = some (.cells cs' t' fr)) (ht : t ≠ t') : g ≠ g' := by
  rintro rfl
  rw [h] at h'
  simp at h'
  exact ht h'.2
theorem own_heap {w : World} {base : Nat} {e : TypeId} {size n : Nat} {v : Value} {xs : List Value} (h : w.ownsRow base e size v n xs) {g : Nat} (hg : v.ownBlock = some g) : ∃ cur, w.heap[g]? = some (.cells cur e (0, 0)) := by
  rcases h.2 with ⟨rfl, _⟩ | ⟨g', cap, cur, rfl, _, hh, _⟩
  · cases hg
  · injection hg with hg; subst hg; exact ⟨cur, hh⟩
theorem own_keep {w w' : World} {base : Nat} {e : TypeId} {size n : Nat} {v : Value} {xs : List Value} (h : w.ownsRow base e size v n xs) (hk : ∀ g, v.ownBlock = some g → w'.heap[g]? = w.heap[g]?) : w'.ownsRow base e size v n xs := by
  refine ⟨h.1, ?_⟩
  rcases h.2 with hn | ⟨g, cap, cur, rfl, h1, hg, rest⟩
  · exact .inl hn
  · exact .inr ⟨g, cap, cur, rfl, h1, (hk g rfl).trans hg, rest⟩
theorem own_cut {w : World} {base : Nat} {e : TypeId} {n : Nat} {A : Option Addr} {c : Nat} {xs : List Value} (h : w.ownsRow base e 1 (.slice A n c) n xs) {m : Nat} (hm : m ≤ n) : w.ownsRow base e 1 (.slice A m c) m (xs.take m) := by
  refine ⟨by rw [List.length_take, h.1]; omega, ?_⟩
  rcases h.2 with ⟨hv, hn⟩ | ⟨g, cap, cur, hv, h1, hg, h2, h3, h4, h5⟩
  · injection hv with a1 a2 a3
    subst a1 a2 a3
    obtain rfl : m = 0 := by omega
    exact .inl ⟨rfl, rfl⟩
  · injection hv with a1 a2 a3
    subst a1 a3
    refine .inr ⟨g, c, cur, rfl, h1, hg, by omega, h3, h4, ?_⟩
    rw [← h5, List.take_take]
    congr 1
    omega

section
variable {w w' : World} {X X' : Nat → Prop} {d m : Nat} {D : DataW Unit} {C : Nat → Value} {S : St}
theorem map_heap {n : Nat} (h : w.ownsMap Try.prog 9 ptrR m n D) : ∃ es clock, w.heap[m]? = some (.map es clock) := by
  obtain ⟨es, clock, hb, _⟩ := h
  exact ⟨es, clock, hb⟩
theorem map_same {n : Nat} (h : w.ownsMap Try.prog 9 ptrR m n D) (hk : w'.heap[m]? = w.heap[m]?) : w'.ownsMap Try.prog 9 ptrR m n D := by
  obtain ⟨es, clock, hb, F⟩ := h
  exact ⟨es, clock, hk.trans hb, F⟩
theorem ne_map {n g : Nat} {t : TypeId} {cs : Array Value} {fr : Nat × Nat} (h : w.ownsMap Try.prog 9 ptrR m n D) (hg : w.heap[g]? = some (.cells cs t fr)) : g ≠ m := by
  rintro rfl
  obtain ⟨es, clock, hb⟩ := map_heap h
  rw [hg] at hb
  cases hb
theorem FileIn.keep {v : Value} {b : Nat} {f : Fl} (h : FileIn w X v b f) (hX : ∀ i, X i → X' i) (hb : w'.heap[b]? = w.heap[b]?) (hg : ∀ g, v.ownBlock = some g → w'.heap[g]? = w.heap[g]?) : FileIn w' X' v b f :=
  ⟨hX _ h.x, hb.trans h.blk, own_keep h.own hg, fun g e => hX _ (h.row g e)⟩
theorem DskAt.d_ne_m (h : DskAt w X d m D C S) : d ≠ m := ne_map h.map h.obj
theorem FileIn.ne_d {v : Value} {b : Nat} {f : Fl} (h : FileIn w X v b f) (hd : DskAt w X d m D C S) : b ≠ d := blk_ne h.blk hd.obj (by decide)
theorem FileIn.ne_m {v : Value} {b : Nat} {f : Fl} (h : FileIn w X v b f) (hd : DskAt w X d m D C S) : b ≠ m := ne_map hd.map h.blk
theorem FileIn.g_ne_d {v : Value} {b : Nat} {f : Fl} (h : FileIn w X v b f) (hd : DskAt w X d m D C S) : ∀ g, v.ownBlock = some g → g ≠ d := fun g e => by
  obtain ⟨cur, hc⟩ := own_heap h.own e
  exact blk_ne hc hd.obj (by decide)
theorem FileIn.g_ne_m {v : Value} {b : Nat} {f : Fl} (h : FileIn w X v b f) (hd : DskAt w X d m D C S) : ∀ g, v.ownBlock = some g → g ≠ m := fun g e => by
  obtain ⟨cur, hc⟩ := own_heap h.own e
  exact ne_map hd.map hc
theorem FileIn.g_ne_b {v v' : Value} {b b' : Nat} {f f' : Fl} (h : FileIn w X v b f) (h' : FileIn w X' v' b' f') : ∀ g, v.ownBlock = some g → g ≠ b' := fun g e => by
  obtain ⟨cur, hc⟩ := own_heap h.own e
  exact blk_ne hc h'.blk (by decide)
theorem DskAt.some_of (h : DskAt w X d m D C S) {k : List UInt8} {b : Nat} (ha : At D k b) : ∃ f, S.V k = some f ∧ FileIn w X (C b) b f := by
  cases hv : S.V k with
  | none =>
    have := h.has k
    rw [hv] at this
    have e := atKey_of_not_has (D := D) (k := .string k) (by simpa using this) .nil
    unfold At at ha
    rw [e] at ha
    cases ha
  | some f =>
    obtain ⟨b', h1, h2⟩ := h.fs k f hv
    obtain rfl := ha.one h1
    exact ⟨f, rfl, h2⟩
theorem DskAt.keep (h : DskAt w X d m D C S) (hs : w.heap.size ≤ w'.heap.size) (hk : ∀ i, X i → w'.heap[i]? = w.heap[i]?) : DskAt w' X d m D C S where
  obj := (hk d h.xd).trans h.obj
  map := map_same h.map (hk m h.xm)
  sz := h.sz
  xd := h.xd
  xm := h.xm
  lt i hi := Nat.lt_of_lt_of_le (h.lt i hi) hs
  has := h.has
  fs k f hf := by
    obtain ⟨b, h1, h2⟩ := h.fs k f hf
    exact ⟨b, h1, h2.keep (fun _ e => e) (hk b h2.x) (fun g e => hk g (h2.row g e))⟩
  inj := h.inj
  rows := h.rows
/-- The object alone has changed. -/
theorem DskAt.setObj (h : DskAt w X d m D C S) (hs : w.heap.size ≤ w'.heap.size) {S' : St} (hk : ∀ i, X i → i ≠ d → w'.heap[i]? = w.heap[i]?) (ho : Blk w' d 52 (objOf m S')) (hV : S'.V = S.V) (hn : S'.n = S.n) : DskAt w' X d m D C S' where
  obj := ho
  map := by rw [hn]; exact map_same h.map (hk m h.xm h.d_ne_m.symm)
  sz := h.sz.trans hn.symm
  xd := h.xd
  xm := h.xm
  lt i hi := Nat.lt_of_lt_of_le (h.lt i hi) hs
  has := by rw [hV]; exact h.has
  fs k f hf := by
    rw [hV] at hf
    obtain ⟨b, h1, h2⟩ := h.fs k f hf
    exact ⟨b, h1, h2.keep (fun _ e => e) (hk b h2.x (h2.ne_d h)) (fun g e => hk g (h2.row g e) (h2.g_ne_d h g e))⟩
  inj := h.inj
  rows := h.rows
/-- One file alone has changed. -/
theorem DskAt.setFile (h : DskAt w X d m D C S) {k : List UInt8} {b : Nat} (hat : At D k b) (hs : w.heap.size ≤ w'.heap.size) {f' : Fl} {v' : Value} (hX : ∀ i, X i → X' i) (hlt : ∀ i, X' i → i < w'.heap.size)
    (hk : ∀ i, X i → i ≠ b → (C b).ownBlock ≠ some i → w'.heap[i]? = w.heap[i]?) (hF : FileIn w' X' v' b f') (hg : ∀ g, v'.ownBlock = some g → (C b).ownBlock = some g ∨ ¬ X g) :
    DskAt w' X' d m D (fun i => if i = b then v' else C i) { S with V := upd S.V k (some f') } := by
  obtain ⟨f, hf, hb⟩ := h.some_of hat
  have hmm : w'.heap[m]? = w.heap[m]? := hk m h.xm (hb.ne_m h).symm (fun e => hb.g_ne_m h m e rfl)
  have hdd : w'.heap[d]? = w.heap[d]? := hk d h.xd (hb.ne_d h).symm (fun e => hb.g_ne_d h d e rfl)
  have old : ∀ k' b', At D k' b' → b' ≠ b → ∃ f'', S.V k' = some f'' ∧ FileIn w' X' (C b') b' f'' := fun k' b' ha hne => by
    obtain ⟨f2, e2, h2⟩ := h.some_of ha
    exact ⟨f2, e2, h2.keep hX (hk b' h2.x hne (fun e => hb.g_ne_b h2 b' e rfl)) (fun g e => hk g (h2.row g e) (h2.g_ne_b hb g e) (fun e' => hne (h.rows _ _ _ _ g ha hat e e')))⟩
  refine ⟨hdd.trans h.obj, map_same h.map hmm, h.sz, hX _ h.xd, hX _ h.xm, hlt, fun t => ?_, fun t g ht => ?_, h.inj, fun k1 k2 b1 b2 g a1 a2 e1 e2 => ?_⟩
  · rw [h.has t]
    show _ = (upd S.V k (some f') t).isSome
    by_cases e : t = k
    · subst e; rw [upd_same, hf]; rfl
    · rw [upd_other _ _ e]
  · rcases upd_some ht with ⟨rfl, e⟩ | ⟨hne, e⟩
    · cases e
      exact ⟨b, hat, by simpa using hF⟩
    · obtain ⟨b', a', h2⟩ := h.fs t g e
      have hbb : b' ≠ b := fun e => hne (h.inj _ _ b (e ▸ a') hat)
      obtain ⟨f2, e2, h3⟩ := old t b' a' hbb
      rw [e] at e2
      cases e2
      exact ⟨b', a', by simpa [hbb] using h3⟩
  · by_cases h1 : b1 = b
    · by_cases h2 : b2 = b
      · rw [h1, h2]
      · simp [h1, h2] at e1 e2
        subst h1
        rcases hg g e1 with e3 | e3
        · exact h.rows _ _ _ _ g a1 a2 e3 e2
        · obtain ⟨f2, _, h4⟩ := h.some_of a2
          exact absurd (h4.row g e2) e3
    · by_cases h2 : b2 = b
      · simp [h1, h2] at e1 e2
        subst h2
        rcases hg g e2 with e3 | e3
        · exact h.rows _ _ _ _ g a1 a2 e1 e3
        · obtain ⟨f2, _, h4⟩ := h.some_of a1
          exact absurd (h4.row g e1) e3
      · simp [h1, h2] at e1 e2
        exact h.rows _ _ _ _ g a1 a2 e1 e2
/-- One name is there no more. -/
theorem DskAt.del (h : DskAt w X d m D C S) {k : List UInt8} {f : Fl} (hf : S.V k = some f) (hs : w.heap.size ≤ w'.heap.size) (hm : w'.ownsMap Try.prog 9 ptrR m S.n (D.del (.string k))) (hk : ∀ i, X i → i ≠ m → w'.heap[i]? = w.heap[i]?) :
    DskAt w' X d m (D.del (.string k)) C { S with n := S.n - 1, V := upd S.V k none } := by
  have hty := h.map.tidy kS
  have hhas : Maps.has D (.string k) = true := by rw [h.has k, hf]; rfl
  have hsz := size_del (k := .string k) hty
  rw [hhas, h.sz] at hsz
  simp at hsz
  refine ⟨(hk d h.xd h.d_ne_m).trans h.obj, ?_, by show Maps.size _ = S.n - 1; omega, h.xd, h.xm, fun i hi => Nat.lt_of_lt_of_le (h.lt i hi) hs, fun t => ?_, fun t g ht => ?_, fun k1 k2 b a1 a2 => ?_, fun k1 k2 b1 b2 g a1 a2 e1 e2 => ?_⟩
  · obtain ⟨es, clock, hb, F, he, hD⟩ := hm
    refine ⟨es, clock, hb, F, ?_, hD⟩
    have : es.size = Maps.size (D.del (.string k)) := by rw [hD]; simp [Maps.size, length_sorted]
    show es.size ≤ S.n - 1
    omega
  · show _ = (upd S.V k none t).isSome
    by_cases e : t = k
    · subst e; rw [upd_same, has_del_same]; rfl
    · rw [upd_other _ _ e, has_del_other (str_ne e), h.has t]
  · rcases upd_some ht with ⟨rfl, e⟩ | ⟨hne, e⟩
    · cases e
    · obtain ⟨b, a, h2⟩ := h.fs t g e
      exact ⟨b, At.del.2 ⟨hne, a⟩, h2.keep (fun _ e => e) (hk b h2.x (h2.ne_m h)) (fun g e => hk g (h2.row g e) (h2.g_ne_m h g e))⟩
  · exact h.inj _ _ b (At.del.1 a1).2 (At.del.1 a2).2
  · exact h.rows _ _ _ _ g (At.del.1 a1).2 (At.del.1 a2).2 e1 e2
/-- One name more is there: of a file that had none. -/
theorem DskAt.put (h : DskAt w X d m D C S) {k : List UInt8} {b : Nat} {f : Fl} (hf : S.V k = none) (hs : w.heap.size ≤ w'.heap.size) (hm : w'.ownsMap Try.prog 9 ptrR m (S.n + 1) (D.put (.string k) (.lit (.int .i64 (b : Int)))))
    (hX : ∀ i, X i → X' i) (hlt : ∀ i, X' i → i < w'.heap.size) (hk : ∀ i, X i → i ≠ m → w'.heap[i]? = w.heap[i]?) (hF : FileIn w' X' (C b) b f) (hfree : ∀ k', ¬ At D k' b) (hrow : ∀ k' b' g, At D k' b' → (C b').ownBlock = some g → (C b).ownBlock ≠ some g) :
    DskAt w' X' d m (D.put (.string k) (.lit (.int .i64 (b : Int)))) C { S with n := S.n + 1, V := upd S.V k (some f) } := by
  have hty := h.map.tidy kS
  have hhas : Maps.has D (.string k) = false := by rw [h.has k, hf]; rfl
  have hsz := size_put (k := .string k) hty (.lit (.int .i64 (b : Int)))
  rw [hhas, h.sz] at hsz
  simp at hsz
  have hD := h.map.isMap
  refine ⟨(hk d h.xd h.d_ne_m).trans h.obj, hm, hsz, hX _ h.xd, hX _ h.xm, hlt, fun t => ?_, fun t g ht => ?_, fun k1 k2 b1 a1 a2 => ?_, fun k1 k2 b1 b2 g a1 a2 e1 e2 => ?_⟩
  · show _ = (upd S.V k (some f) t).isSome
    by_cases e : t = k
    · subst e; rw [upd_same, has_put_same hD (isk _)]; rfl
    · rw [upd_other _ _ e, has_put_other (str_ne e), h.has t]
  · rcases upd_some ht with ⟨rfl, e⟩ | ⟨hne, e⟩
    · cases e
      exact ⟨b, (At.put hD).2 (.inl ⟨rfl, rfl⟩), hF⟩
    · obtain ⟨b', a, h2⟩ := h.fs t g e
      exact ⟨b', (At.put hD).2 (.inr ⟨hne, a⟩), h2.keep hX (hk b' h2.x (h2.ne_m h)) (fun g e => hk g (h2.row g e) (h2.g_ne_m h g e))⟩
  · rcases (At.put hD).1 a1 with ⟨e1, e2⟩ | ⟨_, c1⟩ <;> rcases (At.put hD).1 a2 with ⟨e3, e4⟩ | ⟨_, c2⟩
    · rw [e1, e3]
    · exact absurd (e2 ▸ c2) (hfree _)
    · exact absurd (e4 ▸ c1) (hfree _)
    · exact h.inj _ _ _ c1 c2
  · rcases (At.put hD).1 a1 with ⟨e3, e4⟩ | ⟨_, c1⟩ <;> rcases (At.put hD).1 a2 with ⟨e5, e6⟩ | ⟨_, c2⟩
    · rw [e4, e6]
    · exact absurd (e4 ▸ e1) (hrow _ _ g c2 e2)
    · exact absurd (e6 ▸ e2) (hrow _ _ g c1 e1)
    · exact h.rows _ _ _ _ g c1 c2 e1 e2
end
/-- What a deed leaves: nothing but what is X's has changed; what is new is X''s or nobody's. -/
structure Step (w : World) (X : Nat → Prop) (w' : World) (X' : Nat → Prop) : Prop where
  os : w'.os = w.os
  tape : w'.tape = w.tape
  output : w'.output = w.output
  size : w.heap.size ≤ w'.heap.size
  same : ∀ i, i < w.heap.size → ¬ X i → w'.heap[i]? = w.heap[i]?
  new : ∀ i, X' i → X i ∨ w.heap.size ≤ i
section
variable {w w1 w2 : World} {X X1 X2 : Nat → Prop}
theorem Step.refl (w : World) (X : Nat → Prop) : Step w X w X := ⟨rfl, rfl, rfl, Nat.le_refl _, fun _ _ _ => rfl, fun _ h => .inl h⟩
theorem Step.trans (h : Step w X w1 X1) (k : Step w1 X1 w2 X2) : Step w X w2 X2 :=
  ⟨k.os.trans h.os, k.tape.trans h.tape, k.output.trans h.output, Nat.le_trans h.size k.size, fun i hi hX => (k.same i (Nat.lt_of_lt_of_le hi h.size) (fun e => by
    rcases h.new i e with e | e
    · exact hX e
    · omega)).trans (h.same i hi hX), fun i hi => by
      rcases k.new i hi with e | e
      · exact h.new i e
      · exact .inr (Nat.le_trans h.size e)⟩
theorem Step.drewN (h : Step w X w1 X1) (n : Nat) : Step w X (w1.drewN n) X1 := ⟨h.os, h.tape, h.output, h.size, h.same, h.new⟩
theorem Step.drew (h : Step w X w1 X1) : Step w X w1.drew X1 := ⟨h.os, h.tape, h.output, h.size, h.same, h.new⟩
theorem Step.of_drawn (h : Drawn w w1) (X : Nat → Prop) : Step w X w1 X := by
  obtain ⟨q, rfl⟩ := h
  exact (Step.refl w X).drewN q
theorem Step.alloc (h : Step w X w1 X1) (o : Obj) : Step w X (w1.alloc o) X1 :=
  h.trans ⟨rfl, rfl, rfl, by simp, fun i hi _ => Below.heap_alloc w1 o i hi, fun _ e => .inl e⟩
theorem Step.setCell (h : Step w X w1 X1) {p : Addr} (hp : X1 p.block) (u : Value) : Step w X (w1.setCell p u) X1 :=
  h.trans ⟨rfl, rfl, rfl, by simp [World.setCell], fun i hi hX => Below.heap_setCell w1 p u i (fun e => hX (by rw [e]; exact hp)), fun _ e => .inl e⟩
/-- A store into a block of its own. -/
theorem Step.setNew (h : Step w X w1 X1) {p : Addr} (hp : w.heap.size ≤ p.block) (u : Value) : Step w X (w1.setCell p u) X1 :=
  ⟨h.os, h.tape, h.output, by simpa [World.setCell] using h.size, fun i hi hX => (Below.heap_setCell w1 p u i (fun e => by omega)).trans (h.same i hi hX), h.new⟩
theorem Step.grown (h : Step w X w1 X1) {row : Option Nat} (hg : w1.grownBy w2 row) (hr : ∀ g, row = some g → X1 g ∨ w.heap.size ≤ g) : Step w X w2 X1 :=
  ⟨hg.os.trans h.os, hg.tape.trans h.tape, hg.output.trans h.output, Nat.le_trans h.size hg.size, fun i hi hX => (hg.block i (Nat.lt_of_lt_of_le hi h.size) (fun e => by
    rcases hr i e.symm with e | e
    · rcases h.new i e with e | e
      · exact hX e
      · omega
    · omega)).trans (h.same i hi hX), h.new⟩
theorem Step.widen (h : Step w X w1 X1) (hX : ∀ i, X2 i → X1 i ∨ w.heap.size ≤ i) : Step w X w1 X2 :=
  ⟨h.os, h.tape, h.output, h.size, h.same, fun i hi => by
    rcases hX i hi with e | e
    · exact h.new i e
    · exact .inr e⟩
theorem Step.of_below (h : Below w.heap.size w w1) (X : Nat → Prop) : Step w X w1 X := ⟨h.os, h.tape, h.output, h.size, fun i hi _ => h.block i hi, fun _ e => .inl e⟩
theorem Step.below {B : Nat} (h : Step w X w1 X1) (hX : ∀ i, X i → B ≤ i) (hB : B ≤ w.heap.size) : Below B w w1 :=
  ⟨h.os, h.tape, h.output, h.size, fun i hi => h.same i (by omega) (fun e => by have := hX i e; omega)⟩
theorem Step.cell (h : Step w X w1 X1) {p : Addr} (hp : p.block < w.heap.size) (hX : ¬ X p.block) : w1.cell? p = w.cell? p := World.cell?_of_block (h.same _ hp hX)
end
/-- The disk 'S' lies at 'd', somehow. -/
def Dsk (w : World) (X : Nat → Prop) (d : Nat) (S : St) : Prop := S.ok ∧ ∃ m D C, DskAt w X d m D C S
def Did (w : World) (X : Nat → Prop) (d : Nat) (S : St) (w' : World) : Prop := ∃ X', Dsk w' X' d S ∧ Step w X w' X'
theorem Dsk.keep {w w' : World} {X : Nat → Prop} {d : Nat} {S : St} (h : Dsk w X d S) (hs : w.heap.size ≤ w'.heap.size) (hk : ∀ i, X i → w'.heap[i]? = w.heap[i]?) : Dsk w' X d S := by
  obtain ⟨ho, m, D, C, h⟩ := h
  exact ⟨ho, m, D, C, h.keep hs hk⟩
theorem Dsk.lt {w : World} {X : Nat → Prop} {d : Nat} {S : St} (h : Dsk w X d S) : ∀ i, X i → i < w.heap.size := by
  obtain ⟨ho, m, D, C, h⟩ := h
  exact h.lt
theorem Dsk.drawn {w w' : World} {X : Nat → Prop} {d : Nat} {S : St} (h : Dsk w X d S) (hd : Drawn w w') : Dsk w' X d S := by
  obtain ⟨q, rfl⟩ := hd
  exact h.keep (Nat.le_refl _) (fun _ _ => rfl)
theorem Dsk.alloc {w : World} {X : Nat → Prop} {d : Nat} {S : St} (h : Dsk w X d S) (o : Obj) : Dsk (w.alloc o) X d S := h.keep (by simp) (fun i hi => Below.heap_alloc w o i (h.lt i hi))
theorem Did.none {w w' : World} {X : Nat → Prop} {d : Nat} {S : St} (h : Dsk w X d S) (hd : Drawn w w') : Did w X d S w' := ⟨X, h.drawn hd, Step.of_drawn hd X⟩
theorem Did.from {w w1 w' : World} {X X1 : Nat → Prop} {d : Nat} {S : St} (h : Did w1 X1 d S w') (hs : Step w X w1 X1) : Did w X d S w' := by
  obtain ⟨X', h1, h2⟩ := h
  exact ⟨X', h1, hs.trans h2⟩
end Go.Proofs.Ythgopedojgbaoaa
