/- A disk, over no program: names, files by names, what each deed makes of them; what stays true of it. No condition. -/
import Derived.Sort.KeysCollected
namespace Go.Proofs.Ythgopedojgbaoaa
set_option linter.unusedVariables false
set_option linter.unusedSimpArgs false

/-- A byte that a name may have. -/
def okb (c : Nat) : Bool := (decide (97 ≤ c) && decide (c ≤ 122)) || (decide (48 ≤ c) && decide (c ≤ 57)) || c == 45 || c == 46
/-- Is it a name? -/
def nm (s : List UInt8) : Bool := decide (0 < s.length) && decide (s.length ≤ 32) && s.all fun c => okb c.toNat
/-- A file: its bytes, how many of them are sure. -/
abbrev Fl := List Nat × Nat
abbrev Fs := List UInt8 → Option Fl
def upd (V : Fs) (k : List UInt8) (x : Option Fl) : Fs := fun t => if t = k then x else V t
theorem upd_same (V : Fs) (k : List UInt8) (x : Option Fl) : upd V k x k = x := by simp [upd]
theorem upd_other (V : Fs) {k t : List UInt8} (x : Option Fl) (h : t ≠ k) : upd V k x t = V t := by simp [upd, h]
theorem upd_upd (V : Fs) (k : List UInt8) (x y : Option Fl) : upd (upd V k x) k y = upd V k y := by
  funext t; unfold upd; split <;> rfl
theorem upd_self (V : Fs) {k : List UInt8} {x : Option Fl} (h : V k = x) : upd V k x = V := by
  funext t; unfold upd; split
  · rename_i e; rw [e, h]
  · rfl
/-- The disk. -/
structure St where
  room : Nat
  used : Nat
  n : Nat
  fuse : Int
  down : Bool
  V : Fs
def vlen (V : Fs) (k : List UInt8) : Nat := match V k with | none => 0 | some f => f.1.length
theorem vlen_some {V : Fs} {k : List UInt8} {f : Fl} (h : V k = some f) : vlen V k = f.1.length := by simp [vlen, h]
/-- 'n' files, of 'u' bytes all together. -/
def Tot (V : Fs) (n u : Nat) : Prop := ∃ ks : List (List UInt8), ks.Nodup ∧ ks.length = n ∧ (∀ k, k ∈ ks ↔ (V k).isSome = true) ∧ u = (ks.map (vlen V)).sum
theorem map_vlen_upd (V : Fs) (k : List UInt8) (x : Option Fl) : ∀ ks : List (List UInt8), k ∉ ks → ks.map (vlen (upd V k x)) = ks.map (vlen V)
  | [], _ => rfl
  | a :: r, h => by
    have h1 : a ≠ k := fun e => h (by simp [e])
    rw [List.map_cons, List.map_cons, map_vlen_upd V k x r (fun e => h (by simp [e]))]
    simp [vlen, upd_other V x h1]
theorem Tot.none_ : Tot (fun _ => none) 0 0 := ⟨[], List.nodup_nil, rfl, by simp, by simp⟩
theorem Tot.new_ {V : Fs} {n u : Nat} (h : Tot V n u) {k : List UInt8} (hk : V k = none) (f : Fl) : Tot (upd V k (some f)) (n + 1) (u + f.1.length) := by
  obtain ⟨ks, h1, h2, h3, rfl⟩ := h
  have hn : k ∉ ks := fun e => by have := (h3 k).1 e; rw [hk] at this; cases this
  refine ⟨k :: ks, List.nodup_cons.2 ⟨hn, h1⟩, by simp [h2], fun t => ?_, ?_⟩
  · by_cases e : t = k
    · subst e; simp [upd_same]
    · simp [upd_other V _ e, e, h3 t]
  · rw [List.map_cons, List.sum_cons, map_vlen_upd V k _ ks hn, vlen_some (upd_same V k (some f))]
    omega
theorem Tot.parts {V : Fs} {n u : Nat} (h : Tot V n u) {k : List UInt8} {f : Fl} (hk : V k = some f) :
    ∃ r : List (List UInt8), r.Nodup ∧ k ∉ r ∧ r.length + 1 = n ∧ (∀ t, t ∈ r ↔ t ≠ k ∧ (V t).isSome = true) ∧ u = f.1.length + (r.map (vlen V)).sum := by
  obtain ⟨ks, h1, h2, h3, rfl⟩ := h
  have hm : k ∈ ks := (h3 k).2 (by simp [hk])
  obtain ⟨a, b, rfl⟩ := List.append_of_mem hm
  obtain ⟨n1, n2, n3⟩ := List.nodup_append.1 h1
  obtain ⟨n4, n5⟩ := List.nodup_cons.1 n2
  have ha : k ∉ a := fun e => n3 k e k (by simp) rfl
  refine ⟨a ++ b, List.nodup_append.2 ⟨n1, n5, fun x hx y hy => n3 x hx y (by simp [hy])⟩, by simp [ha, n4], by simp at h2 ⊢; omega, fun t => ?_, ?_⟩
  · by_cases e : t = k
    · subst e; simp [ha, n4]
    · have := h3 t
      simp only [List.mem_append, List.mem_cons, e, false_or] at this
      simp [e, this]
  · simp [vlen_some hk]; omega
theorem Tot.le {V : Fs} {n u : Nat} (h : Tot V n u) {k : List UInt8} {f : Fl} (hk : V k = some f) : f.1.length ≤ u := by
  obtain ⟨r, _, _, _, _, h5⟩ := h.parts hk
  omega
theorem Tot.pos {V : Fs} {n u : Nat} (h : Tot V n u) {k : List UInt8} {f : Fl} (hk : V k = some f) : 0 < n := by
  obtain ⟨r, _, _, h3, _, h5⟩ := h.parts hk
  omega
theorem Tot.old {V : Fs} {n u : Nat} (h : Tot V n u) {k : List UInt8} {f : Fl} (hk : V k = some f) (f' : Fl) : Tot (upd V k (some f')) n (u - f.1.length + f'.1.length) := by
  obtain ⟨r, h1, h2, h3, h4, h5⟩ := h.parts hk
  refine ⟨k :: r, List.nodup_cons.2 ⟨h2, h1⟩, by simp [h3], fun t => ?_, ?_⟩
  · by_cases e : t = k
    · subst e; simp [upd_same]
    · simp [upd_other V _ e, e, h4 t]
  · rw [List.map_cons, List.sum_cons, map_vlen_upd V k _ r h2, vlen_some (upd_same V k (some f'))]
    omega
theorem Tot.del {V : Fs} {n u : Nat} (h : Tot V n u) {k : List UInt8} {f : Fl} (hk : V k = some f) : Tot (upd V k none) (n - 1) (u - f.1.length) := by
  obtain ⟨r, h1, h2, h3, h4, h5⟩ := h.parts hk
  refine ⟨r, h1, by omega, fun t => ?_, ?_⟩
  · by_cases e : t = k
    · subst e; simp [upd_same, h2]
    · simp [upd_other V _ e, e, h4 t]
  · rw [map_vlen_upd V k _ r h2]
    omega
/-- What is true of every disk. -/
structure St.ok (S : St) : Prop where
  tot : Tot S.V S.n S.used
  le : S.used ≤ S.room
  room : S.room ≤ 1099511627776
  cnt : S.n ≤ 65536
  fuse : -9223372036854775808 ≤ S.fuse ∧ S.fuse < 9223372036854775808
  name : ∀ k f, S.V k = some f → nm k = true
  sure : ∀ k f, S.V k = some f → f.2 ≤ f.1.length
  byte : ∀ k f, S.V k = some f → ∀ b ∈ f.1, b < 256
section
variable {S : St}
theorem St.ok.len (h : S.ok) {k : List UInt8} {f : Fl} (hk : S.V k = some f) : f.1.length ≤ 1099511627776 := by
  have := h.tot.le hk; have := h.le; have := h.room; omega
/-- The deeds. -/
def St.tick (S : St) : St := { S with fuse := if 0 < S.fuse then S.fuse - 1 else S.fuse }
def St.deed (S : St) (whole ahead : St → Nat × St) : Nat × St :=
  if S.down = true then (15, S) else if S.fuse = 0 then (15, { (ahead S).2 with down := true }) else whole S.tick
def St.put (S : St) (k : List UInt8) (f : Fl) (x : List Nat) : St := { S with used := S.used + x.length, V := upd S.V k (some (f.1 ++ x, f.2)) }
def St.add (S : St) (k : List UInt8) (x : List Nat) : Nat × St :=
  if nm k = false then (1, S) else
  match S.V k with
  | none => if S.n = 65536 then (12, S) else if S.room - S.used < x.length then (7, S) else (0, { S with used := S.used + x.length, n := S.n + 1, V := upd S.V k (some (x, 0)) })
  | some f => if S.room - S.used < x.length then (7, S) else (0, S.put k f x)
def St.on (k : List UInt8) (act : St → Fl → Nat × St) (S : St) : Nat × St :=
  if nm k = false then (1, S) else match S.V k with | none => (8, S) | some f => act S f
def actSync (k : List UInt8) (S : St) (f : Fl) : Nat × St := (0, { S with V := upd S.V k (some (f.1, f.1.length)) })
def St.gone (S : St) (k : List UInt8) : St := match S.V k with | none => S | some f => { S with used := S.used - f.1.length, n := S.n - 1, V := upd S.V k none }
def actDel (k : List UInt8) (S : St) (f : Fl) : Nat × St := (0, S.gone k)
def St.cut (S : St) (k : List UInt8) (f : Fl) (m : Nat) : St := { S with used := S.used - (f.1.length - m), V := upd S.V k (some (f.1.take m, min f.2 m)) }
def actCut (k : List UInt8) (m : Int) (S : St) (f : Fl) : Nat × St := if m < 0 ∨ (f.1.length : Int) < m then (5, S) else (0, S.cut k f m.toNat)
def St.moved (S : St) (k k2 : List UInt8) (f : Fl) : St := { S with V := upd (upd S.V k none) k2 (some f) }
def actRen (k k2 : List UInt8) (S : St) (f : Fl) : Nat × St :=
  if nm k2 = false then (1, S) else if k = k2 then (0, S) else (0, (S.gone k2).moved k k2 f)

theorem St.ok.tick (h : S.ok) : S.tick.ok := ⟨h.tot, h.le, h.room, h.cnt, by
  have := h.fuse
  show -9223372036854775808 ≤ (if 0 < S.fuse then S.fuse - 1 else S.fuse) ∧ (if 0 < S.fuse then S.fuse - 1 else S.fuse) < 9223372036854775808
  split <;> omega, h.name, h.sure, h.byte⟩
theorem St.ok.fell (h : S.ok) (b : Bool) : St.ok { S with down := b } := ⟨h.tot, h.le, h.room, h.cnt, h.fuse, h.name, h.sure, h.byte⟩
theorem St.ok.fused (h : S.ok) {n : Int} (hn : -9223372036854775808 ≤ n ∧ n < 9223372036854775808) : St.ok { S with fuse := n } := ⟨h.tot, h.le, h.room, h.cnt, hn, h.name, h.sure, h.byte⟩
theorem St.ok.deed (h : S.ok) {whole ahead : St → Nat × St} (hw : ∀ T : St, T.ok → (whole T).2.ok) (ha : ∀ T : St, T.ok → (ahead T).2.ok) : (S.deed whole ahead).2.ok := by
  unfold St.deed
  split
  · exact h
  · split
    · exact (ha S h).fell _
    · exact hw _ h.tick
theorem upd_some {V : Fs} {k t : List UInt8} {x : Option Fl} {f : Fl} (h : upd V k x t = some f) : (t = k ∧ x = some f) ∨ (t ≠ k ∧ V t = some f) := by
  unfold upd at h
  split at h
  · exact .inl ⟨by assumption, h⟩
  · exact .inr ⟨by assumption, h⟩
theorem St.ok.old (h : S.ok) {k : List UInt8} {f f' : Fl} {u : Nat} (hk : S.V k = some f) (hu : u = S.used - f.1.length + f'.1.length) (hle : u ≤ S.room) (hs : f'.2 ≤ f'.1.length) (hb : ∀ b ∈ f'.1, b < 256) :
    St.ok { S with used := u, V := upd S.V k (some f') } := by
  subst hu
  refine ⟨h.tot.old hk f', hle, h.room, h.cnt, h.fuse, fun t g ht => ?_, fun t g ht => ?_, fun t g ht => ?_⟩
  all_goals
    rcases upd_some ht with ⟨rfl, e⟩ | ⟨_, e⟩
  · exact h.name _ _ hk
  · exact h.name _ _ e
  · cases e; exact hs
  · exact h.sure _ _ e
  · cases e; exact hb
  · exact h.byte _ _ e
theorem St.ok.add (h : S.ok) (k : List UInt8) {x : List Nat} (hx : ∀ b ∈ x, b < 256) : (S.add k x).2.ok := by
  unfold St.add
  split
  · exact h
  · rename_i hn
    have hle := h.le
    split
    · rename_i hk
      split
      · exact h
      · split
        · exact h
        · have hc := h.cnt
          refine ⟨h.tot.new_ hk (x, 0), by show S.used + x.length ≤ S.room; omega, h.room, by show S.n + 1 ≤ 65536; omega, h.fuse, fun t g ht => ?_, fun t g ht => ?_, fun t g ht => ?_⟩
          all_goals
            rcases upd_some ht with ⟨rfl, e⟩ | ⟨_, e⟩
          · simpa using hn
          · exact h.name _ _ e
          · cases e; exact Nat.zero_le _
          · exact h.sure _ _ e
          · cases e; exact hx
          · exact h.byte _ _ e
    · rename_i f hk
      split
      · exact h
      · have h1 := h.tot.le hk
        have h2 := h.sure _ _ hk
        exact h.old (f' := (f.1 ++ x, f.2)) hk (by simp; omega) (by omega) (by simp; omega) (fun b hb => by
          rcases List.mem_append.1 hb with hb | hb
          · exact h.byte _ _ hk b hb
          · exact hx b hb)
theorem St.ok.on (h : S.ok) {k : List UInt8} {act : St → Fl → Nat × St} (ha : ∀ f, S.V k = some f → (act S f).2.ok) : (S.on k act).2.ok := by
  unfold St.on
  split
  · exact h
  · split
    · exact h
    · exact ha _ (by assumption)
theorem St.ok.sync (h : S.ok) {k : List UInt8} {f : Fl} (hk : S.V k = some f) : (actSync k S f).2.ok := by
  have h1 := h.tot.le hk
  have := h.old (f' := (f.1, f.1.length)) (u := S.used) hk (by simp; omega) h.le (by simp) (fun b hb => h.byte _ _ hk b hb)
  exact this
theorem St.ok.gone (h : S.ok) (k : List UInt8) : (S.gone k).ok := by
  unfold St.gone
  split
  · exact h
  · rename_i f hk
    refine ⟨h.tot.del hk, by show S.used - _ ≤ S.room; have := h.le; omega, h.room, by show S.n - 1 ≤ 65536; have := h.cnt; omega, h.fuse, fun t g ht => ?_, fun t g ht => ?_, fun t g ht => ?_⟩
    all_goals
      rcases upd_some ht with ⟨rfl, e⟩ | ⟨_, e⟩
    · cases e
    · exact h.name _ _ e
    · cases e
    · exact h.sure _ _ e
    · cases e
    · exact h.byte _ _ e
theorem St.gone_V (S : St) (k : List UInt8) : (S.gone k).V = upd S.V k none := by
  unfold St.gone
  split
  · rename_i hk; exact (upd_self _ hk).symm
  · rfl
theorem St.ok.cut (h : S.ok) {k : List UInt8} {f : Fl} (hk : S.V k = some f) {m : Nat} (hm : m ≤ f.1.length) : (S.cut k f m).ok := by
  have h1 := h.tot.le hk
  have h2 := h.sure _ _ hk
  exact h.old (f' := (f.1.take m, min f.2 m)) hk (by simp; omega) (by have := h.le; omega) (by simp; omega) (fun b hb => h.byte _ _ hk b (List.mem_of_mem_take hb))
theorem St.ok.actCut (h : S.ok) {k : List UInt8} {f : Fl} (hk : S.V k = some f) (m : Int) : (actCut k m S f).2.ok := by
  unfold Go.Proofs.Ythgopedojgbaoaa.actCut
  split
  · exact h
  · exact h.cut hk (by omega)
theorem St.ok.moved (h : S.ok) {k k2 : List UInt8} {f : Fl} (hk : S.V k = some f) (hn : nm k2 = true) (hne : k2 ≠ k) (h2 : S.V k2 = none) : (S.moved k k2 f).ok := by
  have t1 := (h.tot.del hk).new_ (k := k2) (by rw [upd_other _ _ hne]; exact h2) f
  have hp := h.tot.pos hk
  have hl := h.tot.le hk
  have e1 : S.n - 1 + 1 = S.n := by omega
  have e2 : S.used - f.1.length + f.1.length = S.used := by omega
  rw [e1, e2] at t1
  refine ⟨t1, h.le, h.room, h.cnt, h.fuse, fun t g ht => ?_, fun t g ht => ?_, fun t g ht => ?_⟩
  all_goals
    rcases upd_some ht with ⟨rfl, e⟩ | ⟨_, e⟩
  · exact hn
  · rcases upd_some e with ⟨_, e⟩ | ⟨_, e⟩
    · cases e
    · exact h.name _ _ e
  · cases e; exact h.sure _ _ hk
  · rcases upd_some e with ⟨_, e⟩ | ⟨_, e⟩
    · cases e
    · exact h.sure _ _ e
  · cases e; exact h.byte _ _ hk
  · rcases upd_some e with ⟨_, e⟩ | ⟨_, e⟩
    · cases e
    · exact h.byte _ _ e
theorem St.ok.ren (h : S.ok) {k k2 : List UInt8} {f : Fl} (hk : S.V k = some f) : (actRen k k2 S f).2.ok := by
  unfold actRen
  split
  · exact h
  · rename_i hn
    split
    · exact h
    · rename_i hne
      refine (h.gone k2).moved ?_ (by simpa using hn) (fun e => hne e.symm) (by rw [St.gone_V, upd_same])
      rw [St.gone_V, upd_other _ _ hne]
      exact hk
end
/-- From 0 on, of numbers below 0, too. -/
def modu (n m : Int) : Int := if Int.tmod n m < 0 then Int.tmod n m + m else Int.tmod n m
theorem modu_in {n m : Int} (h : 0 < m) : 0 ≤ modu n m ∧ modu n m < m := by
  unfold modu
  have h1 := Int.tmod_lt_of_pos n h
  have h2 : -m < Int.tmod n m := by
    have := Int.lt_tmod_of_pos n h
    omega
  split <;> omega
/-- A new start: a file's tail, by the next of what is kept. -/
def bootF (f : Fl) (keeps : List Int) : Fl × List Int :=
  match keeps with
  | [] => ((f.1, f.1.length), [])
  | k :: r => if f.2 < f.1.length then ((f.1.take (f.2 + (modu k ((f.1.length - f.2 : Nat) + 1)).toNat), f.2 + (modu k ((f.1.length - f.2 : Nat) + 1)).toNat), r) else ((f.1, f.1.length), k :: r)
def bootS : List (List UInt8) → St × List Int → St × List Int
  | [], x => x
  | k :: r, (S, keeps) => bootS r (match S.V k with
    | none => (S, keeps)
    | some f => ({ S with used := S.used - (f.1.length - (bootF f keeps).1.1.length), V := upd S.V k (some (bootF f keeps).1) }, (bootF f keeps).2))
/-- The names, rising. -/
def NamesOf (V : Fs) (ts : List (List UInt8)) : Prop := ∃ ss : List (List UInt8), ss.Nodup ∧ (∀ k, k ∈ ss ↔ (V k).isSome = true) ∧ ts = ss.mergeSort Go.leB
theorem NamesOf.one {V : Fs} {ts ts' : List (List UInt8)} (h : NamesOf V ts) (h' : NamesOf V ts') : ts = ts' := by
  obtain ⟨a, a1, a2, rfl⟩ := h
  obtain ⟨b, b1, b2, rfl⟩ := h'
  exact Go.mergeSort_of_perm ((List.perm_ext_iff_of_nodup a1 b1).2 fun k => (a2 k).trans (b2 k).symm)
theorem NamesOf.mem {V : Fs} {ts : List (List UInt8)} (h : NamesOf V ts) (k : List UInt8) : k ∈ ts ↔ (V k).isSome = true := by
  obtain ⟨a, a1, a2, rfl⟩ := h
  rw [List.mem_mergeSort]
  exact a2 k
theorem NamesOf.nodup {V : Fs} {ts : List (List UInt8)} (h : NamesOf V ts) : ts.Nodup := by
  obtain ⟨a, a1, a2, rfl⟩ := h
  exact (List.mergeSort_perm a _).symm.nodup a1
theorem NamesOf.len {V : Fs} {ts : List (List UInt8)} {n u : Nat} (h : NamesOf V ts) (ht : Tot V n u) : ts.length = n := by
  obtain ⟨a, a1, a2, rfl⟩ := h
  obtain ⟨b, b1, b2, b3, _⟩ := ht
  rw [List.length_mergeSort, ← b2]
  exact ((List.perm_ext_iff_of_nodup a1 b1).2 fun k => (a2 k).trans (b3 k).symm).length_eq
end Go.Proofs.Ythgopedojgbaoaa
