/- Texts joined: Words Post BmPlain CkSet Plain ZigP Digits PlPlain RnPlain Arith64. -/
import Derived.WalkKit
import Derived.Handy
import Derived.Maps.AppendAt
import Derived.Deep.AppendLies
import Derived.Deep.Draws
import Derived.Lib.Hide
import Derived.Below
import Derived.ChangeSame
import Derived.ProofKit
import Derived.OpenShut
/- Words for memory, over any program: a slice that reads as a list of values (nil let in); append of such a slice onto a row of the call's own; bytes as lists of natural numbers. No condition. -/
namespace Go.Proofs.YtmjpjllbfgkfbaaDoor
open Go.RowKit

theorem block_of_add (a : Addr) (n : Nat) : (a.add n).block = a.block := by unfold Addr.add; split <;> rfl
theorem add_of_add (a : Addr) (i j : Nat) : (a.add i).add j = a.add (i + j) := by
  unfold Addr.add
  by_cases hi : i = 0 <;> by_cases hj : j = 0 <;> simp [hi, hj, Nat.add_assoc]

theorem plain_add (b off i : Nat) : (⟨b, off, none⟩ : Addr).add i = ⟨b, off + i, none⟩ := by
  unfold Addr.add
  by_cases h : i = 0 <;> simp [h]
/-- The slice value at 'A' with 'n' places reads as 'xs', below block 'B'. -/
def Reads (w : World) (B size : Nat) (A : Option Addr) (n : Nat) (xs : List Value) : Prop :=
  xs.length = n * size ∧ (0 < n → ∃ ad, A = some ad ∧ ad.block < B ∧ ∀ j u, xs[j]? = some u → w.cell? (ad.add j) = some u)

section
variable {w w' : World} {B B' size n : Nat} {A : Option Addr} {xs : List Value}
theorem Reads.none_ : Reads w B size A 0 [] := ⟨by simp, fun h => absurd h (by omega)⟩
theorem Reads.at_ {k : Nat} (h : Reads w B 1 A n xs) (hk : k < n) : ∃ ad u, A = some ad ∧ ad.block < B ∧ xs[k]? = some u ∧ w.cell? (ad.add k) = some u := by
  obtain ⟨ad, e, hb, hc⟩ := h.2 (by omega)
  have hl : k < xs.length := by have := h.1; omega
  exact ⟨ad, xs[k], e, hb, List.getElem?_eq_getElem hl, hc k _ (List.getElem?_eq_getElem hl)⟩
theorem Reads.plain (h : Reads w B 1 A n xs) (hn : 0 < n) : ∃ b off, A = some ⟨b, off, none⟩ ∧ b < B ∧ ∀ j u, xs[j]? = some u → w.cell? ⟨b, off + j, none⟩ = some u := by
  obtain ⟨⟨b, off, sp⟩, rfl, hb, hc⟩ := h.2 hn
  have hl : 0 < xs.length := by have := h.1; omega
  have h0 := hc 0 _ (List.getElem?_eq_getElem hl)
  have hsp : sp = none := by simpa [Addr.add] using World.cell?_spot h0
  subst hsp
  exact ⟨b, off, rfl, hb, fun j u hu => by have := hc j u hu; rwa [plain_add] at this⟩
theorem Reads.keep (h : Reads w B size A n xs) (hk : ∀ p : Addr, p.block < B → w'.cell? p = w.cell? p) : Reads w' B size A n xs :=
  ⟨h.1, fun hn => by
    obtain ⟨ad, e, hb, hc⟩ := h.2 hn
    exact ⟨ad, e, hb, fun j u hu => (hk _ (by rw [block_of_add]; exact hb)).trans (hc j u hu)⟩⟩
theorem Reads.more (h : Reads w B size A n xs) (hB : B ≤ B') : Reads w B' size A n xs :=
  ⟨h.1, fun hn => by
    obtain ⟨ad, e, hb, hc⟩ := h.2 hn
    exact ⟨ad, e, by omega, hc⟩⟩
theorem Reads.below (h : Reads w B size A n xs) (hb : Below B w w') : Reads w' B size A n xs := h.keep fun _ hp => hb.cell hp
theorem Reads.drew (h : Reads w B size A n xs) : Reads w.drew B size A n xs := h
theorem Reads.drewN (h : Reads w B size A n xs) (k : Nat) : Reads (w.drewN k) B size A n xs := h
theorem Reads.alloc (h : Reads w B size A n xs) (hB : B ≤ w.heap.size) (o : Obj) : Reads (w.alloc o) B size A n xs := h.keep fun p hp => World.cell?_alloc_lt w o p (by omega)
theorem Reads.setCell (h : Reads w B size A n xs) {p : Addr} (hB : B ≤ p.block) (u : Value) : Reads (w.setCell p u) B size A n xs :=
  h.keep fun q hq => World.cell?_setCell_other w p q u (fun e => by subst e; omega)
theorem Reads.grown (h : Reads w B size A n xs) {row : Option Nat} (hg : w.grownBy w' row) (hB : B ≤ w.heap.size) (hr : ∀ g, row = some g → B ≤ g) : Reads w' B size A n xs :=
  h.keep fun p hp => World.cell?_of_block (hg.block p.block (by omega) (fun e => by have := hr _ e.symm; omega))
theorem Reads.cut (h : Reads w B size A n xs) {k cap : Nat} (hk : k ≤ n) (hc : n ≤ cap) :
    Reads w B size (if cap = k then A else A.map (·.add (k * size))) (n - k) (xs.drop (k * size)) := by
  refine ⟨by rw [List.length_drop, h.1, Nat.sub_mul], fun hn => ?_⟩
  obtain ⟨ad, rfl, hb, hcell⟩ := h.2 (by omega)
  rw [if_neg (by omega)]
  refine ⟨ad.add (k * size), rfl, by rw [block_of_add]; exact hb, fun j u hu => ?_⟩
  rw [add_of_add]
  exact hcell _ u (by rw [← hu, List.getElem?_drop])
theorem Reads.fore (h : Reads w B size A n xs) {k : Nat} (hk : k ≤ n) : Reads w B size A k (xs.take (k * size)) := by
  refine ⟨by rw [List.length_take, h.1]; exact Nat.min_eq_left (Nat.mul_le_mul_right _ hk), fun hn => ?_⟩
  obtain ⟨ad, rfl, hb, hcell⟩ := h.2 (by omega)
  refine ⟨ad, rfl, hb, fun j u hu => hcell j u ?_⟩
  rw [List.getElem?_take] at hu
  split at hu
  · exact hu
  · cases hu
theorem Reads.of_own {base : Nat} {e : TypeId} {c : Nat} (h : w.ownsRow base e size (.slice A n c) n xs) : Reads w w.heap.size size A n xs := by
  refine ⟨h.1, fun hn => ?_⟩
  obtain ⟨g, cap, hv, _, hlt⟩ := h.form hn
  have hA : A = some ⟨g, 0, none⟩ := by injection hv
  subst hA
  exact ⟨_, rfl, hlt, h.cells (g := g) rfl⟩
theorem own_slice {base : Nat} {e : TypeId} {v : Value} (h : w.ownsRow base e size v n xs) : ∃ A c, v = .slice A n c ∧ n ≤ c ∧ c ≤ maxLen ∧ Reads w w.heap.size size A n xs := by
  have h0 := h
  rcases h.2 with ⟨rfl, rfl⟩ | ⟨g, cap, cur, rfl, _, _, h1, h2, _⟩
  · exact ⟨none, 0, rfl, Nat.le_refl _, Nat.zero_le _, Reads.of_own (c := 0) h0⟩
  · exact ⟨_, cap, rfl, h1, h2, Reads.of_own h0⟩
end

/-- Block 'g' is just the cells 'cs' of type 't', none frozen. -/
def Blk (w : World) (g : Nat) (t : TypeId) (cs : Array Value) : Prop := w.heap[g]? = some (.cells cs t (0, 0))
section
variable {w w' : World} {g : Nat} {t : TypeId} {cs : Array Value}
theorem Blk.lt (h : Blk w g t cs) : g < w.heap.size := by
  rcases Nat.lt_or_ge g w.heap.size with hlt | hge
  · exact hlt
  · unfold Blk at h; rw [Array.getElem?_eq_none hge] at h; cases h
theorem Blk.cell (h : Blk w g t cs) (i : Nat) : w.cell? ⟨g, i, none⟩ = cs[i]? := cell_of_row w g i cs t (0, 0) h
theorem Blk.frozen (h : Blk w g t cs) (i : Nat) : w.frozen? ⟨g, i, none⟩ = false := by
  unfold Blk at h
  simp [World.frozen?, h]
theorem Blk.new (w : World) (t : TypeId) (cs : Array Value) : Blk (w.alloc (.cells cs t)) w.heap.size t cs := heap_alloc_new w _
theorem Blk.drew (h : Blk w g t cs) : Blk w.drew g t cs := h
theorem Blk.drewN (h : Blk w g t cs) (n : Nat) : Blk (w.drewN n) g t cs := h
theorem Blk.alloc (h : Blk w g t cs) (o : Obj) : Blk (w.alloc o) g t cs := (Below.heap_alloc w o g h.lt).trans h
theorem Blk.set_ (h : Blk w g t cs) (i : Nat) (u : Value) : Blk (w.setCell ⟨g, i, none⟩ u) g t (cs.setIfInBounds i u) := by
  unfold Blk at h ⊢
  simp [World.setCell, Array.getElem?_modify, h]
theorem Blk.far (h : Blk w g t cs) {p : Addr} (hp : g ≠ p.block) (u : Value) : Blk (w.setCell p u) g t cs := (Below.heap_setCell w p u g hp).trans h
theorem Blk.below {B : Nat} (h : Blk w g t cs) (hb : Below B w w') (hg : g < B) : Blk w' g t cs := (hb.block g hg).trans h
theorem Blk.grown {row : Option Nat} (h : Blk w g t cs) (hb : w.grownBy w' row) (hg : some g ≠ row) : Blk w' g t cs := (hb.block g h.lt hg).trans h
end
section
theorem own_nil (w : World) (base : Nat) (e : TypeId) (size : Nat) : w.ownsRow base e size (.slice none 0 0) 0 [] := ⟨by simp, .inl ⟨rfl, rfl⟩⟩
theorem only_drewN {a w : World} {row : Option Nat} (h : a.grownBy w row) (n : Nat) : a.grownBy (w.drewN n) row := ⟨h.os, h.tape, h.output, h.size, h.block⟩
theorem only_alloc {a w : World} {row : Option Nat} (h : a.grownBy w row) (o : Obj) : a.grownBy (w.alloc o) row :=
  ⟨h.os, h.tape, h.output, Nat.le_trans h.size (by simp), fun i hi hne => (Below.heap_alloc w o i (Nat.lt_of_lt_of_le hi h.size)).trans (h.block i hi hne)⟩
theorem only_setCell {a w : World} {g : Nat} (h : a.grownBy w (some g)) {p : Addr} (hp : p.block = g ∨ a.heap.size ≤ p.block) (u : Value) : a.grownBy (w.setCell p u) (some g) :=
  ⟨h.os, h.tape, h.output, by simpa [World.setCell] using h.size, fun i hi hne => (Below.heap_setCell w p u i (by
    rintro rfl
    rcases hp with hp | hp
    · exact hne (by rw [hp])
    · omega)).trans (h.block i hi hne)⟩
theorem only_below {a w w' : World} {row : Option Nat} (h : a.grownBy w row) (hb : Below w.heap.size w w') : a.grownBy w' row :=
  ⟨hb.os.trans h.os, hb.tape.trans h.tape, hb.output.trans h.output, Nat.le_trans h.size hb.size, fun i hi hne => (hb.block i (Nat.lt_of_lt_of_le hi h.size)).trans (h.block i hi hne)⟩
end
section
variable {P : Program} (w : World)

theorem run_append_of_nil (base : Nat) (t ty e : TypeId) (i : TypeInfo) (size : Nat) (ht : P.underlying t = some (.slice e)) (hi : P.info? e = some i)
    (v : Value) (n : Nat) (xs : List Value) (hown : w.ownsRow base e size v n xs) (c : Nat) : (Builtin.append_ #[t, t] ty #[v, .slice none 0 c]).run P w = .ok v w := by
  rcases hown.2 with ⟨rfl, rfl⟩ | ⟨g, cap, cur, rfl, _, _, hnc, _⟩
  · simp [Builtin.append_, run_underlying ht, sizeOf, typeInfo, hi, Builtin.lenOf, Builtin.firstCells]
  · simp [Builtin.append_, run_underlying ht, sizeOf, typeInfo, hi, Builtin.lenOf, Builtin.firstCells, hnc, storeCells]

theorem run_append_any (base : Nat) (t ty e : TypeId) (i : TypeInfo) (z : Value) (size bytes : Nat) (ht : P.underlying t = some (.slice e)) (hi : P.info? e = some i) (hz : i.zero = some z)
    (hsize : i.size = size) (hby : i.bytes = bytes) (hzs : z.cells.size = size) (hsz : 0 < size)
    (v : Value) (n : Nat) (xs : List Value) (hown : w.ownsRow base e size v n xs)
    (B : Nat) (A : Option Addr) (m c : Nat) (news : List Value) (hr : Reads w B size A m news) (h1 : ∀ u ∈ news, u.oneCell' = true)
    (h63 : n + m ≤ maxLen) (hbytes : (n + m) * bytes ≤ 140737488355328) (hbase : base ≤ w.heap.size) :
    ∃ v' w', (Builtin.append_ #[t, t] ty #[v, .slice A m c]).run P w = .ok v' w' ∧ w'.ownsRow base e size v' (n + m) (xs ++ news) ∧ w.grownBy w' v.ownBlock ∧
      (v'.ownBlock = v.ownBlock ∨ v'.ownBlock = some w.heap.size) := by
  rcases A with _ | ad
  · have hm : m = 0 := by
      rcases Nat.eq_zero_or_pos m with h0 | h0
      · exact h0
      · obtain ⟨ad, h, _⟩ := hr.2 h0
        cases h
    subst hm
    have hn : news = [] := List.eq_nil_of_length_eq_zero (by simpa using hr.1)
    subst hn
    exact ⟨v, w, run_append_of_nil w base t ty e i size ht hi v n xs hown c, by simpa using hown, World.grownBy.refl w _, .inl rfl⟩
  · have hcells : ∀ j u, news[j]? = some u → w.cell? (ad.add j) = some u := by
      intro j u hu
      rcases Nat.eq_zero_or_pos m with h0 | h0
      · subst h0
        have hn : news = [] := List.eq_nil_of_length_eq_zero (by simpa using hr.1)
        subst hn
        simp at hu
      · obtain ⟨ad', h, _, hc⟩ := hr.2 h0
        injection h with h
        subst h
        exact hc j u hu
    obtain ⟨v', w', hrun, h2, h3, _, h5⟩ := run_append_own_at (P := P) w base t ty e i z size bytes ht hi hz hsize hby hzs hsz v n xs hown ad m c news hr.1 hcells h1 h63 hbytes hbase
    exact ⟨v', w', hrun, h2, h3, h5⟩

theorem wp_append_any {o : Oper} {a : Act} {K : Act → World → Prop} {Q : Exit → Act → World → Prop} (s x : Operand) (t : TypeId)
    (ho : o.op = .call { callee := .builtin .append, args := #[s, x], argTypes := #[t, t] })
    (base : Nat) (e : TypeId) (i : TypeInfo) (z : Value) (size bytes : Nat) (ht : P.underlying t = some (.slice e)) (hi : P.info? e = some i) (hz : i.zero = some z)
    (hsize : i.size = size) (hby : i.bytes = bytes) (hzs : z.cells.size = size) (hsz : 0 < size)
    (v : Value) (n : Nat) (xs : List Value) (hs : a.eval s = v) (hown : w.ownsRow base e size v n xs)
    (B : Nat) (A : Option Addr) (m c : Nat) (news : List Value) (hx : a.eval x = .slice A m c) (hr : Reads w B size A m news) (h1 : ∀ u ∈ news, u.oneCell' = true)
    (h63 : n + m ≤ maxLen) (hbytes : (n + m) * bytes ≤ 140737488355328) (hbase : base ≤ w.heap.size)
    (h : ∀ v' w', w'.ownsRow base e size v' (n + m) (xs ++ news) → w.grownBy w' v.ownBlock → (v'.ownBlock = v.ownBlock ∨ v'.ownBlock = some w.heap.size) → K (a.put o.dst v') w') : o.wp P a w K Q := by
  obtain ⟨v', w', hrun, h2, h3, h4⟩ := run_append_any (P := P) w base t o.type e i z size bytes ht hi hz hsize hby hzs hsz v n xs hown B A m c news hr h1 h63 hbytes hbase
  unfold Oper.wp execOp
  simp only [ho, resolve, invoke, builtin, Sem.run_bind, Sem.run_pure, Result.andThen_ok, List.map_toArray, List.map_cons, List.map_nil, hs, hx, hrun]
  exact h v' w' h2 h3 h4

theorem wpList_append_any {ops : Array Oper} {rest : List Oper} {o : Oper} {a : Act} {Q : Exit → Act → World → Prop} (hgd : o.guard = none) (s x : Operand) (t : TypeId)
    (ho : o.op = .call { callee := .builtin .append, args := #[s, x], argTypes := #[t, t] })
    (base : Nat) (e : TypeId) (i : TypeInfo) (z : Value) (size bytes : Nat) (ht : P.underlying t = some (.slice e)) (hi : P.info? e = some i) (hz : i.zero = some z)
    (hsize : i.size = size) (hby : i.bytes = bytes) (hzs : z.cells.size = size) (hsz : 0 < size)
    (v : Value) (n : Nat) (xs : List Value) (hs : a.eval s = v) (hown : w.ownsRow base e size v n xs)
    (B : Nat) (A : Option Addr) (m c : Nat) (news : List Value) (hx : a.eval x = .slice A m c) (hr : Reads w B size A m news) (h1 : ∀ u ∈ news, u.oneCell' = true)
    (h63 : n + m ≤ maxLen) (hbytes : (n + m) * bytes ≤ 140737488355328) (hbase : base ≤ w.heap.size)
    (h : ∀ v' w', w'.ownsRow base e size v' (n + m) (xs ++ news) → w.grownBy w' v.ownBlock → (v'.ownBlock = v.ownBlock ∨ v'.ownBlock = some w.heap.size) → wpList P ops Q rest (a.put o.dst v') w') : wpList P ops Q (o :: rest) a w :=
  wpList_plain hgd fun _ hK => wp_append_any w s x t ho base e i z size bytes ht hi hz hsize hby hzs hsz v n xs hs hown B A m c news hx hr h1 h63 hbytes hbase fun v' w' h2 h3 h4 => hK _ _ (h v' w' h2 h3 h4)

/-- The same of an operation that is guarded: the guard holds. -/
theorem wpList_append_when {ops : Array Oper} {rest : List Oper} {o : Oper} {a : Act} {Q : Exit → Act → World → Prop} (hw : Region.wanted o (yielded ops a.tmps) = true) (s x : Operand) (t : TypeId)
    (ho : o.op = .call { callee := .builtin .append, args := #[s, x], argTypes := #[t, t] })
    (base : Nat) (e : TypeId) (i : TypeInfo) (z : Value) (size bytes : Nat) (ht : P.underlying t = some (.slice e)) (hi : P.info? e = some i) (hz : i.zero = some z)
    (hsize : i.size = size) (hby : i.bytes = bytes) (hzs : z.cells.size = size) (hsz : 0 < size)
    (v : Value) (n : Nat) (xs : List Value) (hs : a.eval s = v) (hown : w.ownsRow base e size v n xs)
    (B : Nat) (A : Option Addr) (m c : Nat) (news : List Value) (hx : a.eval x = .slice A m c) (hr : Reads w B size A m news) (h1 : ∀ u ∈ news, u.oneCell' = true)
    (h63 : n + m ≤ maxLen) (hbytes : (n + m) * bytes ≤ 140737488355328) (hbase : base ≤ w.heap.size)
    (h : ∀ v' w', w'.ownsRow base e size v' (n + m) (xs ++ news) → w.grownBy w' v.ownBlock → (v'.ownBlock = v.ownBlock ∨ v'.ownBlock = some w.heap.size) → wpList P ops Q rest (a.put o.dst v') w') : wpList P ops Q (o :: rest) a w :=
  wpList_step fun _ hK => by
    rw [if_pos hw]
    exact wp_append_any w s x t ho base e i z size bytes ht hi hz hsize hby hzs hsz v n xs hs hown B A m c news hx hr h1 h63 hbytes hbase fun v' w' h2 h3 h4 => hK _ _ (h v' w' h2 h3 h4)

theorem step_append_any {ops : Array Oper} {o : Oper} {a : Act} {K : Act → World → Prop} {Q : Exit → Act → World → Prop} {E : Prop} (hgd : o.guard = none) (s x : Operand) (t : TypeId)
    (ho : o.op = .call { callee := .builtin .append, args := #[s, x], argTypes := #[t, t] })
    (base : Nat) (e : TypeId) (i : TypeInfo) (z : Value) (size bytes : Nat) (ht : P.underlying t = some (.slice e)) (hi : P.info? e = some i) (hz : i.zero = some z)
    (hsize : i.size = size) (hby : i.bytes = bytes) (hzs : z.cells.size = size) (hsz : 0 < size)
    (v : Value) (n : Nat) (xs : List Value) (hs : a.eval s = v) (hown : w.ownsRow base e size v n xs)
    (B : Nat) (A : Option Addr) (m c : Nat) (news : List Value) (hx : a.eval x = .slice A m c) (hr : Reads w B size A m news) (h1 : ∀ u ∈ news, u.oneCell' = true)
    (h63 : n + m ≤ maxLen) (hbytes : (n + m) * bytes ≤ 140737488355328) (hbase : base ≤ w.heap.size)
    (h : ∀ v' w', w'.ownsRow base e size v' (n + m) (xs ++ news) → w.grownBy w' v.ownBlock → (v'.ownBlock = v.ownBlock ∨ v'.ownBlock = some w.heap.size) → K (a.put o.dst v') w') :
    if Region.wanted o (yielded ops a.tmps) = true then Oper.wp P o a w K Q else E := by
  have hw : Region.wanted o (yielded ops a.tmps) = true := by simp [Region.wanted, hgd]
  rw [if_pos hw]
  exact wp_append_any w s x t ho base e i z size bytes ht hi hz hsize hby hzs hsz v n xs hs hown B A m c news hx hr h1 h63 hbytes hbase h
end

theorem Reads.new (w : World) (u : Value) (t : TypeId) : Reads (w.alloc (.cells #[u] t)) (w.heap.size + 1) 1 (some ⟨w.heap.size, 0, none⟩) 1 [u] :=
  ⟨by simp, fun _ => ⟨_, rfl, by simp, cell_one_new w u t⟩⟩
theorem one_int (k : IntKind) (z : Int) : ∀ u ∈ [Value.int k z], u.oneCell' = true := by intro u hu; simp at hu; rw [hu]; rfl
/-- Bytes as values. -/
def bs (l : List Nat) : List Value := l.map fun b : Nat => Value.int .u8 (b : Int)
theorem bs_one (l : List Nat) : ∀ u ∈ bs l, u.oneCell' = true := by
  intro u hu
  unfold bs at hu
  obtain ⟨b, _, rfl⟩ := List.mem_map.1 hu
  rfl
theorem bs_append (l m : List Nat) : bs (l ++ m) = bs l ++ bs m := by simp [bs]
theorem bs_length (l : List Nat) : (bs l).length = l.length := by simp [bs]
theorem bs_nil : bs [] = [] := rfl
theorem bs_at {l : List Nat} {k : Nat} {u : Value} (h : (bs l)[k]? = some u) : ∃ b, l[k]? = some b ∧ u = .int .u8 (b : Int) := by
  unfold bs at h
  rw [List.getElem?_map] at h
  cases hb : l[k]? with
  | none => rw [hb] at h; cases h
  | some b => rw [hb] at h; injection h with h; exact ⟨b, rfl, h.symm⟩
theorem bs_take (l : List Nat) (k : Nat) : (bs l).take k = bs (l.take k) := by simp [bs]
theorem bs_drop (l : List Nat) (k : Nat) : (bs l).drop k = bs (l.drop k) := by simp [bs]
theorem bs_snoc (xs : List Value) (l : List Nat) (b : Nat) (z : Int) (h : z = (b : Int)) : xs ++ bs l ++ [Value.int .u8 z] = xs ++ bs (l ++ [b]) := by
  subst h; simp [bs]
/-- What stood below 'B' stands, behind a new block and an append onto a row that lies from 'B' on. -/
theorem below_app {B : Nat} {a w w2 : World} {e : TypeId} {size n : Nat} {v : Value} {xs : List Value} {o : Obj} (hb : Below B a w) (hown : w.ownsRow B e size v n xs) (hB : B ≤ w.heap.size) (hg : (w.alloc o).grownBy w2 v.ownBlock) : Below B a w2 :=
  (hb.alloc hB o).grown hg (by simp; omega) (fun k hk => (hown.lt k hk).1)
theorem own_base {w : World} {base base' : Nat} {e : TypeId} {size n : Nat} {v : Value} {xs : List Value} (h : w.ownsRow base e size v n xs) (hb : base' ≤ base) : w.ownsRow base' e size v n xs := by
  refine ⟨h.1, ?_⟩
  rcases h.2 with hn | ⟨g, cap, cur, rfl, h1, rest⟩
  · exact .inl hn
  · exact .inr ⟨g, cap, cur, rfl, by omega, rest⟩
theorem own_below {w w' : World} {base : Nat} {e : TypeId} {size n : Nat} {v : Value} {xs : List Value} (h : w.ownsRow base e size v n xs) (hb : Below w.heap.size w w') : w'.ownsRow base e size v n xs := by
  refine ⟨h.1, ?_⟩
  rcases h.2 with hn | ⟨g, cap, cur, rfl, h1, hg, rest⟩
  · exact .inl hn
  · exact .inr ⟨g, cap, cur, rfl, h1, (hb.block g (Array.getElem?_eq_some_iff.1 hg).1).trans hg, rest⟩
/-- Nothing but draws has happened. -/
def Drawn (w w' : World) : Prop := ∃ q, w' = w.drewN q
theorem Drawn.refl (w : World) : Drawn w w := ⟨0, rfl⟩
theorem Drawn.one (w : World) (q : Nat) : Drawn w (w.drewN q) := ⟨q, rfl⟩
theorem Drawn.more {w w1 : World} (h : Drawn w w1) (q : Nat) : Drawn w (w1.drewN q) := by
  obtain ⟨k, rfl⟩ := h
  exact ⟨k + q, World.drewN_drewN _ _ _⟩
theorem Drawn.trans {a b c : World} (h : Drawn a b) (k : Drawn b c) : Drawn a c := by
  obtain ⟨q, rfl⟩ := k
  exact h.more q
theorem Drawn.below {w w' : World} (h : Drawn w w') {B : Nat} {a : World} (hb : Below B a w) : Below B a w' := by
  obtain ⟨q, rfl⟩ := h
  exact ⟨hb.os, hb.tape, hb.output, hb.size, hb.block⟩
theorem ret_of {a b : Value} (h : a = b) : Ending.returned a = Ending.returned b := by rw [h]
theorem quiet_same {P : Program} {f : FuncId} {args : Array Value} {w : World} {a n : Nat} {v : Value}
    (h : Calls P f args (w.drewN (a + n)) fun e w' => e = .returned v ∧ w.drewN (a + n) = w') :
    Calls P f args (w.drewN (a + n)) fun e w'' => e = .returned v ∧ ∃ m, w'' = w.drewN (a + m) :=
  h.mono fun _ _ ⟨he, hm⟩ => ⟨he, n, hm.symm⟩
theorem quiet_same0 {P : Program} {f : FuncId} {args : Array Value} {w : World} {n : Nat} {v : Value}
    (h : Calls P f args (w.drewN n) fun e w' => e = .returned v ∧ w.drewN n = w') : Calls P f args (w.drewN n) fun e w'' => e = .returned v ∧ ∃ m, w'' = w.drewN m :=
  h.mono fun _ _ ⟨he, hm⟩ => ⟨he, n, hm.symm⟩
theorem quiet_drawn {P : Program} {f : FuncId} {args : Array Value} {w : World} {a n : Nat} {v : Value}
    (h : Calls P f args (w.drewN (a + n)) fun e w' => e = .returned v ∧ Drawn (w.drewN (a + n)) w') :
    Calls P f args (w.drewN (a + n)) fun e w'' => e = .returned v ∧ ∃ m, w'' = w.drewN (a + m) :=
  h.mono fun _ _ ⟨he, m, hm⟩ => ⟨he, n + m, by rw [hm, World.drewN_drewN, Nat.add_assoc]⟩
theorem quiet_drawn0 {P : Program} {f : FuncId} {args : Array Value} {w : World} {n : Nat} {v : Value}
    (h : Calls P f args (w.drewN n) fun e w' => e = .returned v ∧ Drawn (w.drewN n) w') : Calls P f args (w.drewN n) fun e w'' => e = .returned v ∧ ∃ m, w'' = w.drewN m :=
  h.mono fun _ _ ⟨he, m, hm⟩ => ⟨he, n + m, by rw [hm, World.drewN_drewN]⟩
theorem reads_blk {w : World} {g : Nat} {t : TypeId} {cs : Array Value} (h : Blk w g t cs) (B n : Nat) (xs : List Value) (hB : g < B) (hn : xs.length = n) (hx : cs.toList.take n = xs) : Reads w B 1 (some ⟨g, 0, none⟩) n xs := by
  refine ⟨by omega, fun _ => ⟨_, rfl, hB, fun j u hu => ?_⟩⟩
  rw [plain_add, Nat.zero_add, h.cell]
  subst hx
  rw [List.getElem?_take] at hu
  split at hu
  · simpa using hu
  · cases hu
theorem bcell {W w1 : World} (hb : Below W.heap.size W w1) : (∀ b o, b < W.heap.size → w1.cell? ⟨b, o, none⟩ = W.cell? ⟨b, o, none⟩) ∧ (∀ b o, b < W.heap.size → w1.frozen? ⟨b, o, none⟩ = W.frozen? ⟨b, o, none⟩) :=
  ⟨fun b o h => hb.cell (p := ⟨b, o, none⟩) h, fun b o h => hb.frozen (p := ⟨b, o, none⟩) h⟩
end Go.Proofs.YtmjpjllbfgkfbaaDoor

/- The last step of a row whose call leaves a world of which only 'Below' is known. -/
namespace Go.Proofs.YtmjpjllbfgkfbaaDoor
open Go.RowKit Go.WideShapes Go.ChangeShapes
section
variable {H : Type} {enc : TypeId × Value → H} {P : Program}
theorem post_of_below {f : Func} {s : ChangeSpec} {apart fresh handsOn again : Bool} {W W' : World} {args : Array Value} {v : Value} {ds gs : List (DataW H)} {before pa pv : List MemPlace}
    (hW : DataW.Whole enc P f.params.toList s.vars apart W args.toList ds gs before)
    (hres : ∀ (b : Nat) (sp : Nat → Bool) (hd : Bool), DataW.TrodAll enc P W' b sp hd f.resultTypes.toList (v.resultList f.resultTypes.size) (s.fn H (ds ++ gs)).results [])
    (hargs : ∀ sp : Nat → Bool, (∀ p ∈ before, sp p.block = true) → DataW.TrodAll enc P W' 0 sp true f.params.toList args.toList (s.fn H (ds ++ gs)).args pa)
    (hvars : ∀ sp : Nat → Bool, (∀ p ∈ before, sp p.block = true) → DataW.TrodVars enc P W' sp s.vars (s.fn H (ds ++ gs)).vars pv)
    (hps : before = pa ++ pv) (hb : Below W.heap.size W W')
    (hok : ∀ (j : Nat) (t : TypeId) (r : Value), f.resultTypes[j]? = some t → (v.resultList f.resultTypes.size)[j]? = some r → Value.okWide P W' .any 0 t r) :
    s.post enc P f apart fresh handsOn again W args v W' := by
  have hlt : ∀ p ∈ before, p.block < W.heap.size := fun p hp => hW.lt p hp
  have hold : ∀ p ∈ before, (fun b => decide (b < W.heap.size)) p.block = true := fun p hp => by simpa using hlt p hp
  refine ⟨ds, gs, before, [], pa, pv, hW, hres _ _ _, hargs _ hold, hvars _ hold, World.keptBut_mono (fun p hp => ⟨hp, ?_⟩) (hb.frame (· ∈ before)), fun _ => ?_⟩
  · rw [hps, List.mem_append] at hp
    exact Or.inr hp
  · obtain ⟨_, _, _, _, _, hz, hn⟩ := hW
    refine ⟨hok, _, _, ([] ++ pa) ++ pv, ⟨[] ++ pa, pv, trodAll_append (hargs _ (fun _ _ => rfl)) (hres _ _ _), hvars _ (fun _ _ => rfl), rfl, ?_, ?_⟩, ?_⟩
    · intro b off hp
      have hin : MemPlace.cell b off ∈ before := by rw [hps]; simpa using hp
      rw [hb.frozen (hlt _ hin)]
      exact hz b off hin
    · intro ha
      have := hn ha
      rw [hps] at this
      simpa using this
    · intro p hp _
      rw [hps]
      simpa using hp
end

/-- What the walk is told of a slice of integers that came in. -/
def IsRow (k : IntKind) (w : World) (a : Option Addr) (len cap : Nat) (zs : List Int) : Prop :=
  (a = none ∧ len = 0 ∧ cap = 0 ∧ zs = []) ∨
  ∃ x, a = some x ∧ len ≤ cap ∧ cap ≤ maxLen ∧ zs.length = cap ∧ (∀ i, i < zs.length → w.cell? (x.add i) = some (.int k (zs.getD i 0))) ∧ ∀ n ∈ zs, (Lit.int k n).wf = true
theorem IsRow.bytes {w : World} {a : Option Addr} {len cap : Nat} {zs : List Int} (h : IsRow .u8 w a len cap zs) :
    ∃ l : List Nat, l.length = len ∧ len ≤ cap ∧ Reads w w.heap.size 1 a len (bs l) ∧ ∀ b ∈ l, b < 256 := by
  rcases h with ⟨rfl, rfl, rfl, rfl⟩ | ⟨x, rfl, hl, hm, hz, hcell, hw⟩
  · exact ⟨[], rfl, Nat.le_refl _, Reads.none_, by simp⟩
  · have hr : ∀ n ∈ zs, 0 ≤ n ∧ n ≤ 255 := fun n hn => by have := hw n hn; simpa [Lit.wf, IntKind.min, IntKind.max, IntKind.signed, IntKind.bits] using this
    refine ⟨(zs.take len).map Int.toNat, by simp; omega, hl, ⟨by simp [bs]; omega, fun hn => ⟨x, rfl, ?_, fun j u hu => ?_⟩⟩, ?_⟩
    · have := World.block_lt_of_cell? w _ (hcell 0 (by omega))
      rwa [block_of_add] at this
    · obtain ⟨b, hb, rfl⟩ := bs_at hu
      rw [List.getElem?_map, List.getElem?_take] at hb
      split at hb
      · rename_i hj
        have hjz : j < zs.length := by omega
        rw [List.getElem?_eq_getElem hjz] at hb
        simp at hb
        have h0 := hr _ (List.getElem_mem hjz)
        rw [hcell j hjz]
        simp only [List.getD, List.getElem?_eq_getElem hjz, Option.getD]
        congr 2
        omega
      · cases hb
    · intro b hb
      obtain ⟨z, hz', rfl⟩ := List.mem_map.1 hb
      have := hr z (List.mem_of_mem_take hz')
      omega
theorem u64_of {a : Int} (w : (Lit.int .u64 a).wf = true) : ∃ v : Nat, a = (v : Int) ∧ v < 18446744073709551616 := by
  have hx : 0 ≤ a ∧ a ≤ 18446744073709551615 := by simpa [Lit.wf, IntKind.min, IntKind.max, IntKind.signed, IntKind.bits] using w
  obtain ⟨v, rfl⟩ := Int.eq_ofNat_of_zero_le hx.1
  exact ⟨v, rfl, by omega⟩
theorem i64_of {a : Int} (w : (Lit.int .i64 a).wf = true) : -9223372036854775808 ≤ a ∧ a ≤ 9223372036854775807 := by
  simpa [Lit.wf, IntKind.min, IntKind.max, IntKind.signed, IntKind.bits] using w
theorem u8_of {a : Int} (w : (Lit.int .u8 a).wf = true) : ∃ v : Nat, a = (v : Int) ∧ v < 256 := by
  have hx : 0 ≤ a ∧ a ≤ 255 := by simpa [Lit.wf, IntKind.min, IntKind.max, IntKind.signed, IntKind.bits] using w
  obtain ⟨v, rfl⟩ := Int.eq_ofNat_of_zero_le hx.1
  exact ⟨v, rfl, by omega⟩
end Go.Proofs.YtmjpjllbfgkfbaaDoor

/- Which of so many places are marked, told as plain bytes: their bits, how many are marked below a place, the marked ones. No program; no condition. -/
namespace Go.Proofs.YtmjpjllbfgkfbaaDoor
set_option linter.unusedVariables false
set_option linter.unusedSimpArgs false

/-- How many bytes so many places have. -/
def siz (n : Nat) : Nat := (n + 7) / 8
/-- Is the place marked? -/
def bit (l : List Nat) (k : Nat) : Bool := (l.getD (k / 8) 0).testBit (k % 8)
/-- The bytes of a set of 'n' places. -/
structure OkS (n : Nat) (l : List Nat) : Prop where
  len : l.length = siz n
  byte : ∀ x ∈ l, x < 256
  left : ∀ k, bit l k = true → k < n
def cnt (f : Nat → Bool) : Nat → Nat
  | 0 => 0
  | n + 1 => cnt f n + (if f n then 1 else 0)
def sel (f : Nat → Bool) : Nat → List Nat
  | 0 => []
  | n + 1 => sel f n ++ (if f n then [n] else [])

theorem cnt_le (f : Nat → Bool) (n : Nat) : cnt f n ≤ n := by
  induction n with
  | zero => exact Nat.le_refl _
  | succ n ih => unfold cnt; split <;> omega
theorem cnt_add (f : Nat → Bool) (a b : Nat) : cnt f (a + b) = cnt f a + cnt (fun k => f (a + k)) b := by
  induction b with
  | zero => rfl
  | succ b ih =>
    show cnt f (a + b) + (if f (a + b) then 1 else 0) = cnt f a + (cnt (fun k => f (a + k)) b + (if f (a + b) then 1 else 0))
    omega
theorem cnt_congr {f g : Nat → Bool} (n : Nat) (h : ∀ k, k < n → f k = g k) : cnt f n = cnt g n := by
  induction n with
  | zero => rfl
  | succ n ih => unfold cnt; rw [ih (fun k hk => h k (by omega)), h n (by omega)]
theorem cnt_mono (f : Nat → Bool) {a b : Nat} (h : a ≤ b) : cnt f a ≤ cnt f b := by
  obtain ⟨d, rfl⟩ := Nat.exists_eq_add_of_le h
  rw [cnt_add]; omega
theorem cnt_over {f : Nat → Bool} {n : Nat} (h : ∀ k, f k = true → k < n) (m : Nat) (hm : n ≤ m) : cnt f m = cnt f n := by
  obtain ⟨d, rfl⟩ := Nat.exists_eq_add_of_le hm
  rw [cnt_add]
  have : ∀ d, cnt (fun k => f (n + k)) d = 0 := by
    intro d
    induction d with
    | zero => rfl
    | succ d ih =>
      unfold cnt
      rw [ih]
      cases hf : f (n + d) with
      | false => rfl
      | true => have := h _ hf; omega
  rw [this]; rfl
theorem sel_length (f : Nat → Bool) (n : Nat) : (sel f n).length = cnt f n := by
  induction n with
  | zero => rfl
  | succ n ih => unfold sel cnt; rw [List.length_append, ih]; split <;> rfl
theorem sel_add (f : Nat → Bool) (a b : Nat) : sel f (a + b) = sel f a ++ (sel (fun k => f (a + k)) b).map (a + ·) := by
  induction b with
  | zero => simp [sel]
  | succ b ih =>
    show sel f (a + b) ++ (if f (a + b) then [a + b] else []) = sel f a ++ ((sel (fun k => f (a + k)) b ++ (if f (a + b) then [b] else [])).map (a + ·))
    rw [ih, List.map_append, List.append_assoc]
    congr 2
    split <;> rfl
theorem sel_congr {f g : Nat → Bool} (n : Nat) (h : ∀ k, k < n → f k = g k) : sel f n = sel g n := by
  induction n with
  | zero => rfl
  | succ n ih => unfold sel; rw [ih (fun k hk => h k (by omega)), h n (by omega)]
theorem sel_over {f : Nat → Bool} {n : Nat} (h : ∀ k, f k = true → k < n) (m : Nat) (hm : n ≤ m) : sel f m = sel f n := by
  obtain ⟨d, rfl⟩ := Nat.exists_eq_add_of_le hm
  rw [sel_add]
  have : ∀ d, sel (fun k => f (n + k)) d = [] := by
    intro d
    induction d with
    | zero => rfl
    | succ d ih =>
      unfold sel
      rw [ih]
      cases hf : f (n + d) with
      | false => rfl
      | true => have := h _ hf; omega
  rw [this]; simp
theorem sel_lt (f : Nat → Bool) (n : Nat) : ∀ x ∈ sel f n, x < n := by
  induction n with
  | zero => intro x hx; cases hx
  | succ n ih =>
    intro x hx
    unfold sel at hx
    rcases List.mem_append.1 hx with h | h
    · have := ih x h; omega
    · split at h
      · simp at h; omega
      · cases h

/-- How many bits of a byte are set; which. -/
def pc (x : Nat) : Nat := cnt x.testBit 8
def bts (x : Nat) : List Nat := sel x.testBit 8
theorem pc_le (x : Nat) : pc x ≤ 8 := cnt_le _ _
theorem bit_at (l : List Nat) (k j : Nat) (hj : j < 8) : bit l (8 * k + j) = (l.getD k 0).testBit j := by
  unfold bit
  rw [show (8 * k + j) / 8 = k by omega, show (8 * k + j) % 8 = j by omega]
theorem rank_step (l : List Nat) (k : Nat) : cnt (bit l) (8 * (k + 1)) = cnt (bit l) (8 * k) + pc (l.getD k 0) := by
  rw [Nat.mul_add, Nat.mul_one, cnt_add]
  congr 1
  exact cnt_congr 8 (fun j hj => bit_at l k j hj)
theorem pc_shift_fin : ∀ x : Fin 256, ∀ r : Fin 8, 0 < r.val → pc (x.val * 2 ^ (8 - r.val) % 256) = cnt x.val.testBit r.val := by decide +kernel
theorem rank_rest (l : List Nat) (i : Nat) (hx : l.getD (i / 8) 0 < 256) (hr : 0 < i % 8) : cnt (bit l) i = cnt (bit l) (8 * (i / 8)) + pc (l.getD (i / 8) 0 * 2 ^ (8 - i % 8) % 256) := by
  have h := pc_shift_fin ⟨_, hx⟩ ⟨i % 8, by omega⟩ hr
  simp only at h
  rw [h]
  conv => lhs; rw [show i = 8 * (i / 8) + i % 8 by omega]
  rw [cnt_add]
  congr 1
  exact cnt_congr _ (fun j hj => bit_at l _ j (by omega))
theorem sel_step (l : List Nat) (k : Nat) : sel (bit l) (8 * (k + 1)) = sel (bit l) (8 * k) ++ (bts (l.getD k 0)).map (8 * k + ·) := by
  rw [Nat.mul_add, Nat.mul_one, sel_add]
  congr 2
  exact sel_congr 8 (fun j hj => bit_at l k j hj)
/-- The lowest bit that is set. -/
def tz (x : Nat) : Nat := (bts x).headD 8
theorem tz_fin : ∀ x : Fin 256, x.val ≠ 0 → bts x.val = tz x.val :: bts (x.val &&& (x.val - 1)) := by decide +kernel
theorem tz_lt_fin : ∀ x : Fin 256, x.val ≠ 0 → tz x.val < 8 ∧ (x.val &&& (x.val - 1)) < x.val := by decide +kernel
theorem bts_zero : bts 0 = [] := by decide +kernel
theorem bts_next {x : Nat} (h : x < 256) (h0 : x ≠ 0) : bts x = tz x :: bts (x &&& (x - 1)) ∧ tz x < 8 ∧ (x &&& (x - 1)) < x :=
  ⟨tz_fin ⟨x, h⟩ h0, tz_lt_fin ⟨x, h⟩ h0⟩

/-- One place more is marked. -/
def mark (l : List Nat) (i : Nat) : List Nat := l.set (i / 8) (l.getD (i / 8) 0 ||| 2 ^ (i % 8))
theorem mark_length (l : List Nat) (i : Nat) : (mark l i).length = l.length := by simp [mark]
theorem getD_set (l : List Nat) (i j v : Nat) (hi : i < l.length) : (l.set i v).getD j 0 = if i = j then v else l.getD j 0 := by
  simp only [List.getD_eq_getElem?_getD, List.getElem?_set]
  split
  · simp [hi]
  · rfl
theorem bit_mark (l : List Nat) (i k : Nat) (hi : i / 8 < l.length) : bit (mark l i) k = (decide (k = i) || bit l k) := by
  unfold bit mark
  rw [getD_set _ _ _ _ hi]
  by_cases h : i / 8 = k / 8
  · rw [if_pos h, h, Nat.testBit_or, Nat.testBit_two_pow]
    by_cases h2 : i % 8 = k % 8
    · have : k = i := by omega
      simp [this]
    · have : k ≠ i := by omega
      simp [this, h2]
  · rw [if_neg h]
    have : k ≠ i := by omega
    simp [this]
theorem getD_byte {l : List Nat} (h : ∀ x ∈ l, x < 256) (k : Nat) : l.getD k 0 < 256 := by
  rw [List.getD_eq_getElem?_getD]
  cases hk : l[k]? with
  | none => simp
  | some x => simpa using h x (List.mem_of_getElem? hk)
theorem siz_lt {n i : Nat} (h : i < n) : i / 8 < siz n := by unfold siz; omega
theorem OkS.mark {n : Nat} {l : List Nat} (h : OkS n l) {i : Nat} (hi : i < n) : OkS n (mark l i) where
  len := by rw [mark_length, h.len]
  byte x hx := by
    rcases List.mem_or_eq_of_mem_set hx with h1 | h1
    · exact h.byte x h1
    · rw [h1]
      exact Nat.or_lt_two_pow (n := 8) (getD_byte h.byte _) (show 2 ^ (i % 8) < 2 ^ 8 from Nat.pow_lt_pow_right (by omega) (by omega))
  left k hk := by
    rw [bit_mark l i k (by rw [h.len]; exact siz_lt hi)] at hk
    simp at hk
    rcases hk with rfl | hk
    · exact hi
    · exact h.left k hk
theorem bit_zeros (n k : Nat) : bit (List.replicate n 0) k = false := by
  unfold bit
  have : (List.replicate n 0).getD (k / 8) 0 = 0 := by
    rw [List.getD_eq_getElem?_getD, List.getElem?_replicate]
    split <;> rfl
  rw [this, Nat.zero_testBit]
theorem OkS.new (n : Nat) : OkS n (List.replicate (siz n) 0) where
  len := by simp
  byte x hx := by have := List.eq_of_mem_replicate hx; omega
  left k hk := by rw [bit_zeros] at hk; cases hk
theorem byte_ext {x y : Nat} (hx : x < 256) (hy : y < 256) (h : ∀ j, j < 8 → x.testBit j = y.testBit j) : x = y := by
  apply Nat.eq_of_testBit_eq
  intro i
  by_cases hi : i < 8
  · exact h i hi
  · have h2 : 2 ^ 8 ≤ 2 ^ i := Nat.pow_le_pow_right (by omega) (by omega)
    rw [Nat.testBit_lt_two_pow (by omega), Nat.testBit_lt_two_pow (by omega)]
theorem bytes_ext {l l' : List Nat} (hl : l.length = l'.length) (h1 : ∀ x ∈ l, x < 256) (h2 : ∀ x ∈ l', x < 256) (h : ∀ k, k < 8 * l.length → bit l k = bit l' k) : l = l' := by
  apply List.ext_getElem hl
  intro i hi hi'
  have e : ∀ (m : List Nat) (hm : i < m.length), m.getD i 0 = m[i] := fun m hm => by simp [List.getD_eq_getElem?_getD, hm]
  refine byte_ext (h1 _ (List.getElem_mem hi)) (h2 _ (List.getElem_mem hi')) (fun j hj => ?_)
  have := h (8 * i + j) (by omega)
  rwa [bit_at l i j hj, bit_at l' i j hj, e l hi, e l' hi'] at this
theorem OkS.ext {n : Nat} {l l' : List Nat} (h : OkS n l) (h' : OkS n l') (hb : ∀ k, k < n → bit l k = bit l' k) : l = l' := by
  refine bytes_ext (by rw [h.len, h'.len]) h.byte h'.byte (fun k _ => ?_)
  by_cases hk : k < n
  · exact hb k hk
  · cases e : bit l k with
    | true => exact absurd (h.left k e) hk
    | false =>
      cases e' : bit l' k with
      | true => exact absurd (h'.left k e') hk
      | false => rfl
/-- Is a bit set that is none of the 'n' places? -/
def lef (l : List Nat) (n : Nat) : Bool := decide (0 < n % 8) && decide (l.getD (n / 8) 0 / 2 ^ (n % 8) ≠ 0)
theorem div_zero_of_bits {x r : Nat} (h : ∀ j, r ≤ j → x.testBit j = false) : x / 2 ^ r = 0 := by
  apply Nat.eq_of_testBit_eq
  intro i
  rw [Nat.testBit_div_two_pow, Nat.zero_testBit]
  exact h _ (by omega)
theorem lef_no {l : List Nat} {n : Nat} (hl : l.length = siz n) (hb : ∀ x ∈ l, x < 256) : lef l n = false ↔ OkS n l := by
  constructor
  · intro h
    refine ⟨hl, hb, fun k hk => ?_⟩
    rcases Nat.lt_or_ge k n with h1 | h1
    · exact h1
    · exfalso
      by_cases h2 : k / 8 < l.length
      · have h3 : k / 8 = n / 8 ∧ 0 < n % 8 := by rw [hl] at h2; unfold siz at h2; omega
        unfold lef at h
        have h4 : l.getD (n / 8) 0 / 2 ^ (n % 8) = 0 := by
          rcases Nat.eq_zero_or_pos (l.getD (n / 8) 0 / 2 ^ (n % 8)) with e | e
          · exact e
          · simp only [h3.2, decide_true, Bool.true_and, decide_eq_false_iff_not] at h
            omega
        unfold bit at hk
        rw [h3.1] at hk
        have h5 : (l.getD (n / 8) 0 / 2 ^ (n % 8)).testBit (k % 8 - n % 8) = true := by
          rw [Nat.testBit_div_two_pow, show k % 8 - n % 8 + n % 8 = k % 8 by omega]; exact hk
        rw [h4, Nat.zero_testBit] at h5
        cases h5
      · unfold bit at hk
        have : l.getD (k / 8) 0 = 0 := by rw [List.getD_eq_getElem?_getD, List.getElem?_eq_none (by omega)]; rfl
        rw [this, Nat.zero_testBit] at hk
        cases hk
  · intro h
    unfold lef
    by_cases h1 : 0 < n % 8
    · have h4 : l.getD (n / 8) 0 / 2 ^ (n % 8) = 0 := by
        refine div_zero_of_bits (fun j hj => ?_)
        by_cases h8 : j < 8
        · cases e : (l.getD (n / 8) 0).testBit j with
          | false => rfl
          | true =>
            have := h.left (8 * (n / 8) + j) (by rw [bit_at _ _ _ h8]; exact e)
            omega
        · have h2 : 2 ^ 8 ≤ 2 ^ j := Nat.pow_le_pow_right (by omega) (by omega)
          exact Nat.testBit_lt_two_pow (by have := getD_byte hb (n / 8); omega)
      rw [h4]; simp
    · simp [h1]
/-- The error's number of reading bytes as a set of 'n' places. -/
def rdE (b : List Nat) (n : Int) : Nat :=
  if n < 0 ∨ 65536 < n then 1 else if b.length < siz n.toNat then 2 else if siz n.toNat < b.length then 3 else if lef b n.toNat = true then 4 else 0
theorem rdE_ok {b : List Nat} {n : Int} (hb : ∀ x ∈ b, x < 256) (h : rdE b n = 0) : 0 ≤ n ∧ n ≤ 65536 ∧ OkS n.toNat b := by
  unfold rdE at h
  split at h
  · cases h
  split at h
  · cases h
  split at h
  · cases h
  split at h
  · cases h
  rename_i h1 h2 h3 h4
  exact ⟨by omega, by omega, (lef_no (by omega) hb).1 (by simpa using h4)⟩
theorem rdE_of_ok {n : Nat} {b : List Nat} (hn : n ≤ 65536) (h : OkS n b) : rdE b (n : Int) = 0 := by
  unfold rdE
  have := h.len
  rw [if_neg (by omega), if_neg (by rw [Int.toNat_natCast]; omega), if_neg (by rw [Int.toNat_natCast]; omega), if_neg]
  rw [Int.toNat_natCast, (lef_no h.len h.byte).2 h]
  simp
end Go.Proofs.YtmjpjllbfgkfbaaDoor

/- The bytes of a set of so many places, of which those are marked that a truth says. No program. -/
namespace Go.Proofs.YtmjpjllbfgkfbaaDoor
set_option linter.unusedVariables false
set_option linter.unusedSimpArgs false

/-- The bytes of a set of 'n' places, of which the places of 'f' are marked. -/
def setB (f : Nat → Bool) (n : Nat) : List Nat := (sel f n).foldl mark (List.replicate (siz n) 0)
theorem marks_ok {n : Nat} : ∀ (ps : List Nat) (l : List Nat), OkS n l → (∀ p ∈ ps, p < n) → OkS n (ps.foldl mark l) ∧ ∀ k, bit (ps.foldl mark l) k = (decide (k ∈ ps) || bit l k) := by
  intro ps
  induction ps with
  | nil => intro l h _; exact ⟨h, fun k => by simp⟩
  | cons p ps ih =>
    intro l h hp
    have hpn : p < n := hp p (by simp)
    obtain ⟨h1, h2⟩ := ih (mark l p) (h.mark hpn) (fun q hq => hp q (by simp [hq]))
    refine ⟨h1, fun k => ?_⟩
    rw [List.foldl_cons, h2, bit_mark _ _ _ (by rw [h.len]; exact siz_lt hpn)]
    by_cases e1 : k ∈ ps <;> by_cases e2 : k = p <;> simp [e1, e2]
theorem sel_mem (f : Nat → Bool) (n k : Nat) : k ∈ sel f n ↔ k < n ∧ f k = true := by
  induction n with
  | zero => simp [sel]
  | succ n ih =>
    rw [sel, List.mem_append, ih]
    constructor
    · rintro (⟨h1, h2⟩ | h)
      · exact ⟨by omega, h2⟩
      · cases e : f n with
        | true => rw [e] at h; simp at h; subst h; exact ⟨by omega, e⟩
        | false => rw [e] at h; simp at h
    · rintro ⟨h1, h2⟩
      by_cases e : k = n
      · subst e; right; simp [h2]
      · left; exact ⟨by omega, h2⟩
theorem setB_ok (f : Nat → Bool) (n : Nat) : OkS n (setB f n) ∧ ∀ k, k < n → bit (setB f n) k = f k := by
  obtain ⟨h1, h2⟩ := marks_ok (sel f n) _ (OkS.new n) (sel_lt f n)
  refine ⟨h1, fun k hk => ?_⟩
  rw [setB, h2, bit_zeros, Bool.or_false]
  cases e : f k with
  | true => simp [sel_mem, hk, e]
  | false => simp [sel_mem, e]
theorem setB_length (f : Nat → Bool) (n : Nat) : (setB f n).length = siz n := (setB_ok f n).1.len
theorem setB_is {f : Nat → Bool} {n : Nat} {l : List Nat} (h : OkS n l) (hb : ∀ k, k < n → bit l k = f k) : setB f n = l :=
  (setB_ok f n).1.ext h fun k hk => by rw [(setB_ok f n).2 k hk, hb k hk]
theorem cnt_pos {f : Nat → Bool} {n k : Nat} (hk : k < n) (h : f k = true) : 0 < cnt f n := by
  induction n with
  | zero => omega
  | succ n ih =>
    rw [cnt]
    by_cases e : k = n
    · subst e; rw [h]; simp
    · have := ih (by omega); omega
theorem cnt_none {f : Nat → Bool} {n : Nat} (h : cnt f n = 0) : ∀ k, k < n → f k = false := by
  intro k hk
  cases e : f k with
  | false => rfl
  | true => have := cnt_pos hk e; omega
theorem cnt_off {f : Nat → Bool} : ∀ {n : Nat}, (∀ k, k < n → f k = false) → cnt f n = 0 := by
  intro n
  induction n with
  | zero => intro _; rfl
  | succ n ih => intro h; rw [cnt, ih fun k hk => h k (by omega), h n (by omega)]; rfl
theorem bit_nil (k : Nat) : bit [] k = false := by simp [bit]
end Go.Proofs.YtmjpjllbfgkfbaaDoor

/- Plain facts on numbers as bytes: the short number's bytes, the fixed number's bytes and its value. No condition. -/
namespace Go.Proofs.YtmjpjllbfgkfbaaDoor

/-- The short number of 'v', with fuel. -/
def vbF : Nat → Nat → List Nat
  | 0, v => [v]
  | f + 1, v => if v < 128 then [v] else (128 + v % 128) :: vbF f (v / 128)
/-- The short number of 'v' (below 2^64). -/
def vb (v : Nat) : List Nat := vbF 9 v

theorem vbF_step (f v : Nat) : vbF (f + 1) v = if v < 128 then [v] else (128 + v % 128) :: vbF f (v / 128) := rfl
theorem vbF_succ (f v : Nat) (h : v < 128 ^ (f + 1)) : vbF (f + 1) v = vbF f v := by
  induction f generalizing v with
  | zero => unfold vbF; rw [if_pos (by simpa using h)]
  | succ f ih =>
    rw [vbF_step (f + 1) v, vbF_step f v]
    by_cases h1 : v < 128
    · rw [if_pos h1, if_pos h1]
    · rw [if_neg h1, if_neg h1, ih]
      rw [Nat.pow_succ] at h
      exact Nat.div_lt_of_lt_mul (by omega)
theorem vb_small (v : Nat) (h : v < 128) : vb v = [v] := by unfold vb; rw [vbF_step, if_pos h]
theorem vb_big (v : Nat) (h : ¬ v < 128) (h2 : v < 18446744073709551616) : vb v = (128 + v % 128) :: vb (v / 128) := by
  unfold vb
  rw [vbF_step 8 v, if_neg h, vbF_succ 8 (v / 128)]
  have : (128 : Nat) ^ (8 + 1) = 9223372036854775808 := by decide
  rw [this]; omega
theorem vbF_length (f v : Nat) : 0 < (vbF f v).length ∧ (vbF f v).length ≤ f + 1 := by
  induction f generalizing v with
  | zero => simp [vbF]
  | succ f ih =>
    rw [vbF_step]
    by_cases h : v < 128
    · rw [if_pos h]; simp
    · rw [if_neg h]; have := ih (v / 128); simp only [List.length_cons]; omega
theorem vb_length (v : Nat) : 0 < (vb v).length ∧ (vb v).length ≤ 10 := by have := vbF_length 9 v; unfold vb; omega
theorem vbF_byte (f v : Nat) (h : v < 128 ^ (f + 1)) : ∀ b ∈ vbF f v, b < 256 := by
  induction f generalizing v with
  | zero => intro b hb; simp [vbF] at hb h; omega
  | succ f ih =>
    rw [vbF_step]
    by_cases h1 : v < 128
    · rw [if_pos h1]; intro b hb; simp at hb; omega
    · rw [if_neg h1]
      intro b hb
      rcases List.mem_cons.1 hb with rfl | hb
      · omega
      · refine ih _ ?_ b hb
        rw [Nat.pow_succ] at h
        exact Nat.div_lt_of_lt_mul (by omega)
theorem vb_byte (v : Nat) (h : v < 18446744073709551616) : ∀ b ∈ vb v, b < 256 :=
  vbF_byte 9 v (by have : (128 : Nat) ^ (9 + 1) = 1180591620717411303424 := by decide
                   rw [this]; omega)

/-- The fixed number of 'v' in 'n' bytes. -/
def fx : Nat → Nat → List Nat
  | 0, _ => []
  | n + 1, v => v % 256 :: fx n (v / 256)
/-- The number that fixed bytes are. -/
def unfx : List Nat → Nat
  | [] => 0
  | b :: l => b + 256 * unfx l
theorem fx_length (n v : Nat) : (fx n v).length = n := by
  induction n generalizing v with
  | zero => rfl
  | succ n ih => simp [fx, ih]
theorem fx_byte (n v : Nat) : ∀ b ∈ fx n v, b < 256 := by
  induction n generalizing v with
  | zero => intro b hb; simp [fx] at hb
  | succ n ih =>
    intro b hb
    rcases List.mem_cons.1 hb with rfl | hb
    · omega
    · exact ih _ b hb
theorem unfx_fx (n v : Nat) : unfx (fx n v) = v % 256 ^ n := by
  induction n generalizing v with
  | zero => simp [fx, unfx, Nat.mod_one]
  | succ n ih =>
    simp only [fx, unfx, ih]
    rw [Nat.pow_succ, Nat.mul_comm (256 ^ n) 256, Nat.mod_mul]
theorem unfx_lt (l : List Nat) (h : ∀ b ∈ l, b < 256) : unfx l < 256 ^ l.length := by
  induction l with
  | nil => simp [unfx]
  | cons b l ih =>
    have h1 := h b (by simp)
    have h2 := ih fun x hx => h x (by simp [hx])
    simp only [unfx, List.length_cons, Nat.pow_succ]
    omega
set_option maxRecDepth 10000 in
theorem bit7' : ∀ b : Fin 256, b.val ||| 128 = 128 + b.val % 128 := by decide +kernel
theorem bit7 (b : Nat) (h : b < 256) : b ||| 128 = 128 + b % 128 := bit7' ⟨b, h⟩
end Go.Proofs.YtmjpjllbfgkfbaaDoor

/- Plain facts on Zig and Zag: numbers with a sign as numbers without. No program. -/
namespace Go.Proofs.YtmjpjllbfgkfbaaDoor
open Go.RowKit
set_option linter.unusedVariables false
set_option linter.unusedSimpArgs false
set_option maxRecDepth 100000

def zigI (n : Int) : Int := if 0 ≤ n then 2 * n else -2 * n - 1
def zagI (v : Int) : Int := if v % 2 = 0 then v / 2 else -(v / 2) - 1
theorem zag_zig (n : Int) : zagI (zigI n) = n := by unfold zagI zigI; split <;> split <;> omega
theorem zig_zag (v : Int) (h : 0 ≤ v) : zigI (zagI v) = v := by unfold zagI zigI; split <;> split <;> omega
theorem zigI_range (n : Int) (h1 : -9223372036854775808 ≤ n) (h2 : n ≤ 9223372036854775807) : 0 ≤ zigI n ∧ zigI n < 18446744073709551616 := by unfold zigI; split <;> omega
theorem zagI_range (v : Int) (h1 : 0 ≤ v) (h2 : v < 18446744073709551616) : -9223372036854775808 ≤ zagI v ∧ zagI v ≤ 9223372036854775807 := by unfold zagI; split <;> omega

theorem xor_ones (x : Nat) (h : x < 18446744073709551616) : x ^^^ 18446744073709551615 = 18446744073709551615 - x := by
  have h1 : (BitVec.ofNat 64 x ^^^ BitVec.allOnes 64).toNat = (~~~ (BitVec.ofNat 64 x)).toNat := by rw [BitVec.xor_allOnes]
  rw [BitVec.toNat_xor, BitVec.toNat_not, BitVec.toNat_ofNat, BitVec.toNat_allOnes] at h1
  have e : x % 2 ^ 64 = x := Nat.mod_eq_of_lt (by omega)
  rw [e] at h1
  exact h1
theorem zig_low (n : Int) (h0 : 0 ≤ n) (h2 : n ≤ 9223372036854775807) : bits .xor .u64 (n * 2) (n / 9223372036854775808) = zigI n := by
  obtain ⟨m, rfl⟩ := Int.eq_ofNat_of_zero_le h0
  rw [show ((m : Int) / 9223372036854775808) = ((0 : Nat) : Int) by omega, show ((m : Int) * 2) = ((m * 2 : Nat) : Int) by omega, u64_xor_nat _ _ (by omega) (by omega), Nat.xor_zero]
  unfold zigI
  rw [if_pos h0]; omega
theorem zig_high (n : Int) (h0 : ¬ 0 ≤ n) (h1 : -9223372036854775808 ≤ n) :
    bits .xor .u64 (IntKind.u64.wrap (IntKind.u64.wrap n * 2)) (IntKind.u64.wrap (n / 9223372036854775808)) = zigI n := by
  obtain ⟨m, hm⟩ := Int.eq_ofNat_of_zero_le (show 0 ≤ 2 * n + 18446744073709551616 by omega)
  rw [show IntKind.u64.wrap (n / 9223372036854775808) = ((18446744073709551615 : Nat) : Int) by rw [IntKind.wrap_u64]; omega, show IntKind.u64.wrap (IntKind.u64.wrap n * 2) = (m : Int) by rw [IntKind.wrap_u64, IntKind.wrap_u64]; omega,
    u64_xor_nat _ _ (by omega) (by omega), xor_ones _ (by omega)]
  unfold zigI
  rw [if_neg h0]; omega
theorem and_one (v : Nat) (hv : v < 18446744073709551616) : bits .and .u64 (v : Int) 1 = ((v % 2 : Nat) : Int) := by
  rw [show (1 : Int) = ((1 : Nat) : Int) from rfl, u64_and_nat _ _ hv (by omega), nat_mask1]
theorem zag_is (v : Nat) (hv : v < 18446744073709551616) : bits .xor .i64 ((v : Int) / 2) (wrap64 (-wrap64 (bits .and .u64 (v : Int) 1))) = zagI v := by
  rw [and_one v hv]
  have hx : (BitVec.ofInt 64 ((v : Int) / 2)).toNat = v / 2 := by
    rw [show ((v : Int) / 2) = ((v / 2 : Nat) : Int) by omega, BitVec.ofInt_natCast, BitVec.toNat_ofNat]; exact Nat.mod_eq_of_lt (by omega)
  show IntKind.i64.wrap ((BitVec.ofInt 64 ((v : Int) / 2) ^^^ BitVec.ofInt 64 (wrap64 (-wrap64 ((v % 2 : Nat) : Int)))).toNat : Int) = _
  unfold zagI
  by_cases h : v % 2 = 0
  · rw [h, show wrap64 (-wrap64 ((0 : Nat) : Int)) = 0 by decide +kernel, if_pos (by omega), show BitVec.ofInt 64 0 = 0#64 from rfl, BitVec.xor_zero, hx, IntKind.wrap_i64]
    omega
  · have h1 : v % 2 = 1 := by omega
    rw [h1, show wrap64 (-wrap64 ((1 : Nat) : Int)) = -1 by decide +kernel, if_neg (by omega), show BitVec.ofInt 64 (-1) = BitVec.allOnes 64 by decide, BitVec.xor_allOnes, BitVec.toNat_not, hx, IntKind.wrap_i64]
    omega

end Go.Proofs.YtmjpjllbfgkfbaaDoor

/- Plain facts: numbers packed in a width are the digits of one number; its bytes are its digits base 256. No condition. -/
namespace Go.Proofs.YtmjpjllbfgkfbaaDoor

/-- The number whose digits base 2^w are 'l', the lowest first. -/
def pk (w : Nat) : List Nat → Nat
  | [] => 0
  | a :: l => a + 2 ^ w * pk w l
/-- The 'n' lowest digits base 2^w of 'V', the lowest first. -/
def dg (w : Nat) : Nat → Nat → List Nat
  | 0, _ => []
  | n + 1, V => V % 2 ^ w :: dg w n (V / 2 ^ w)

theorem pk_cons (w a : Nat) (l : List Nat) : pk w (a :: l) = a + 2 ^ w * pk w l := rfl
theorem pk_append (w : Nat) (l m : List Nat) : pk w (l ++ m) = pk w l + 2 ^ (w * l.length) * pk w m := by
  induction l with
  | nil => simp [pk]
  | cons a l ih =>
    rw [List.cons_append, pk_cons, pk_cons, ih, List.length_cons, Nat.mul_succ, Nat.pow_add, Nat.mul_add, Nat.add_assoc]
    congr 2
    rw [← Nat.mul_assoc, Nat.mul_comm (2 ^ w)]
theorem pk_snoc (w : Nat) (l : List Nat) (a : Nat) : pk w (l ++ [a]) = pk w l + 2 ^ (w * l.length) * a := by
  rw [pk_append]; simp [pk]
theorem pk_lt (w : Nat) (l : List Nat) (h : ∀ a ∈ l, a < 2 ^ w) : pk w l < 2 ^ (w * l.length) := by
  induction l with
  | nil => simp [pk]
  | cons a l ih =>
    have h1 := h a (by simp)
    have h2 := ih fun x hx => h x (by simp [hx])
    rw [pk_cons, List.length_cons, Nat.mul_succ, Nat.pow_add, Nat.mul_comm (2 ^ (w * l.length))]
    calc a + 2 ^ w * pk w l < 2 ^ w + 2 ^ w * pk w l := by omega
      _ = 2 ^ w * (pk w l + 1) := by rw [Nat.mul_add]; omega
      _ ≤ 2 ^ w * 2 ^ (w * l.length) := Nat.mul_le_mul_left _ h2
theorem dg_succ (w n V : Nat) : dg w (n + 1) V = V % 2 ^ w :: dg w n (V / 2 ^ w) := rfl
theorem dg_length (w n V : Nat) : (dg w n V).length = n := by
  induction n generalizing V with
  | zero => rfl
  | succ n ih => rw [dg_succ, List.length_cons, ih]
theorem dg_lt (w n V : Nat) : ∀ a ∈ dg w n V, a < 2 ^ w := by
  induction n generalizing V with
  | zero => intro a h; cases h
  | succ n ih =>
    intro a h
    rw [dg_succ] at h
    rcases List.mem_cons.1 h with rfl | h
    · exact Nat.mod_lt _ (Nat.two_pow_pos w)
    · exact ih _ a h
theorem pk_dg (w n V : Nat) : pk w (dg w n V) = V % 2 ^ (w * n) := by
  induction n generalizing V with
  | zero => simp [dg, pk, Nat.mod_one]
  | succ n ih => rw [dg_succ, pk_cons, ih, Nat.mul_succ, Nat.pow_add, Nat.mul_comm (2 ^ (w * n)), Nat.mod_mul]
theorem dg_pk (w : Nat) (l : List Nat) (h : ∀ a ∈ l, a < 2 ^ w) : dg w l.length (pk w l) = l := by
  induction l with
  | nil => rfl
  | cons a l ih =>
    have h1 := h a (by simp)
    rw [List.length_cons, dg_succ, pk_cons, Nat.add_mul_mod_self_left, Nat.mod_eq_of_lt h1, Nat.add_mul_div_left _ _ (Nat.two_pow_pos w), Nat.div_eq_of_lt h1, Nat.zero_add,
      ih fun x hx => h x (by simp [hx])]
theorem dg_add (w m n V : Nat) : dg w (m + n) V = dg w m V ++ dg w n (V / 2 ^ (w * m)) := by
  induction m generalizing V with
  | zero => simp [dg]
  | succ m ih =>
    rw [Nat.succ_add, dg_succ, dg_succ, ih, List.cons_append, Nat.div_div_eq_div_mul, Nat.mul_succ, Nat.pow_add, Nat.mul_comm (2 ^ w)]
theorem dg_snoc (w n V : Nat) : dg w (n + 1) V = dg w n V ++ [V / 2 ^ (w * n) % 2 ^ w] := by
  rw [dg_add]; rfl
theorem dg_over (w n V X : Nat) : dg w n (V + 2 ^ (w * n) * X) = dg w n V := by
  induction n generalizing V with
  | zero => rfl
  | succ n ih =>
    rw [dg_succ, dg_succ, Nat.mul_succ, Nat.add_comm (w * n) w, Nat.pow_add, Nat.mul_assoc, Nat.add_mul_mod_self_left, Nat.add_mul_div_left _ _ (Nat.two_pow_pos w), ih]
theorem dg_zero_width (n V : Nat) : dg 0 n V = List.replicate n 0 := by
  induction n generalizing V with
  | zero => rfl
  | succ n ih => rw [dg_succ, ih, Nat.pow_zero, Nat.mod_one, List.replicate_succ]
theorem dg_of_zero (w n : Nat) : dg w n 0 = List.replicate n 0 := by
  induction n with
  | zero => rfl
  | succ n ih => rw [dg_succ, Nat.zero_mod, Nat.zero_div, ih, List.replicate_succ]
/-- A digit, and what is above it. -/
theorem pk_drop (w : Nat) (l : List Nat) (h : ∀ a ∈ l, a < 2 ^ w) (i : Nat) : pk w l / 2 ^ (w * i) = pk w (l.drop i) := by
  induction i generalizing l with
  | zero => simp
  | succ i ih =>
    cases l with
    | nil => simp [pk]
    | cons a l =>
      have h1 := h a (by simp)
      rw [List.drop_succ_cons, ← ih l fun x hx => h x (by simp [hx]), pk_cons, Nat.mul_succ, Nat.add_comm (w * i), Nat.pow_add, ← Nat.div_div_eq_div_mul, Nat.add_mul_div_left _ _ (Nat.two_pow_pos w), Nat.div_eq_of_lt h1, Nat.zero_add]
/-- A bit of the whole is a bit of the digit that it lies in. -/
theorem pk_bit (w : Nat) (l : List Nat) (h : ∀ a ∈ l, a < 2 ^ w) (i k : Nat) (hi : i < l.length) (hk : k < w) : pk w l / 2 ^ (w * i + k) % 2 = l[i] / 2 ^ k % 2 := by
  rw [Nat.pow_add, ← Nat.div_div_eq_div_mul, pk_drop w l h, List.drop_eq_getElem_cons hi, pk_cons]
  obtain ⟨d, rfl⟩ : ∃ d, w = k + (d + 1) := ⟨w - k - 1, by omega⟩
  rw [Nat.pow_add, Nat.mul_assoc, Nat.add_mul_div_left _ _ (Nat.two_pow_pos k), Nat.pow_succ, Nat.mul_comm (2 ^ d) 2, Nat.mul_assoc, Nat.add_mul_mod_self_left]
/-- One bit more of a beginning, from the top down. -/
theorem bit_down (V m j : Nat) : V / 2 ^ m % 2 ^ (j + 1) = 2 * (V / 2 ^ (m + 1) % 2 ^ j) + V / 2 ^ m % 2 := by
  rw [Nat.pow_succ 2 j, Nat.mul_comm (2 ^ j) 2, Nat.mod_mul, Nat.pow_succ 2 m, ← Nat.div_div_eq_div_mul]
  omega

/-- How many bits a number has. -/
def blen (v : Nat) : Nat := if v = 0 then 0 else v.log2 + 1
theorem blen_le (v k : Nat) : blen v ≤ k ↔ v < 2 ^ k := by
  unfold blen
  by_cases h : v = 0
  · simp [h, Nat.two_pow_pos]
  · rw [if_neg h, ← Nat.log2_lt h]; omega
theorem blen_half (v : Nat) (h : 0 < v) : blen v = blen (v / 2) + 1 := by
  have h1 : ∀ k, blen v ≤ k + 1 ↔ blen (v / 2) ≤ k := fun k => by
    rw [blen_le, blen_le, Nat.pow_succ]; omega
  have h2 := (h1 (blen (v / 2))).2 (Nat.le_refl _)
  have h3 : 0 < blen v := by
    rcases Nat.eq_zero_or_pos (blen v) with h0 | h0
    · have := (blen_le v 0).1 (by omega); simp at this; omega
    · exact h0
  have h4 := (h1 (blen v - 1)).1 (by omega)
  omega
theorem blen_or (a b : Nat) : blen (a ||| b) = max (blen a) (blen b) := by
  have h : ∀ k, blen (a ||| b) ≤ k ↔ max (blen a) (blen b) ≤ k := fun k => by
    rw [Nat.max_le, blen_le, blen_le, blen_le]
    constructor
    · intro h; exact ⟨Nat.lt_of_le_of_lt Nat.left_le_or h, Nat.lt_of_le_of_lt Nat.right_le_or h⟩
    · intro h; exact Nat.or_lt_two_pow h.1 h.2
  have h1 := (h _).1 (Nat.le_refl _)
  have h2 := (h _).2 (Nat.le_refl _)
  omega
theorem blen_lt64 (v : Nat) (h : v < 18446744073709551616) : blen v ≤ 64 := (blen_le v 64).2 (by simpa using h)
/-- The least width that all go into. -/
def wd : List Nat → Nat := List.foldl (fun m a => max m (blen a)) 0
/-- All of them, bit by bit by or. -/
def orl : List Nat → Nat := List.foldl (· ||| ·) 0
theorem wd_snoc (l : List Nat) (a : Nat) : wd (l ++ [a]) = max (wd l) (blen a) := by simp [wd]
theorem orl_snoc (l : List Nat) (a : Nat) : orl (l ++ [a]) = orl l ||| a := by simp [orl]
theorem snoc_ind {p : List Nat → Prop} (h0 : p []) (h1 : ∀ l a, p l → p (l ++ [a])) (l : List Nat) : p l := by
  have : ∀ m : List Nat, p m.reverse := fun m => by
    induction m with
    | nil => exact h0
    | cons a m ih => rw [List.reverse_cons]; exact h1 _ _ ih
  have := this l.reverse
  rwa [List.reverse_reverse] at this
theorem wd_le (l : List Nat) (k : Nat) : wd l ≤ k ↔ ∀ a ∈ l, a < 2 ^ k := by
  refine snoc_ind (p := fun l => wd l ≤ k ↔ ∀ a ∈ l, a < 2 ^ k) ?_ ?_ l
  · simp [wd]
  · intro l a ih
    rw [wd_snoc, Nat.max_le, ih, blen_le]
    simp only [List.mem_append, List.mem_singleton]
    constructor
    · rintro ⟨h1, h2⟩ x (hx | rfl)
      · exact h1 x hx
      · exact h2
    · intro h
      exact ⟨fun x hx => h x (.inl hx), h a (.inr rfl)⟩
theorem blen_orl (l : List Nat) : blen (orl l) = wd l := by
  refine snoc_ind (p := fun l => blen (orl l) = wd l) rfl ?_ l
  intro l a ih
  rw [orl_snoc, wd_snoc, blen_or, ih]
theorem orl_lt (l : List Nat) (k : Nat) (h : ∀ a ∈ l, a < 2 ^ k) : orl l < 2 ^ k := by
  rw [← blen_le, blen_orl, wd_le]; exact h

/-- How many bytes 'n' numbers have in a width. -/
def sz (n w : Nat) : Nat := (n * w + 7) / 8
/-- The numbers' bytes. -/
def packB (w : Nat) (l : List Nat) : List Nat := dg 8 (sz l.length w) (pk w l)
theorem packB_length (w : Nat) (l : List Nat) : (packB w l).length = sz l.length w := dg_length _ _ _
theorem packB_byte (w : Nat) (l : List Nat) : ∀ b ∈ packB w l, b < 256 := dg_lt 8 _ _
theorem sz_le (n w : Nat) : w * n ≤ 8 * sz n w := by unfold sz; rw [Nat.mul_comm w n]; omega
/-- What is packed is unpacked as it was. -/
theorem pk_packB (w : Nat) (l : List Nat) (h : ∀ a ∈ l, a < 2 ^ w) : pk 8 (packB w l) = pk w l := by
  unfold packB
  rw [pk_dg]
  exact Nat.mod_eq_of_lt (Nat.lt_of_lt_of_le (pk_lt w l h) (Nat.pow_le_pow_right (by omega) (sz_le _ _)))
theorem unpack_pack (w : Nat) (l : List Nat) (h : ∀ a ∈ l, a < 2 ^ w) : dg w l.length (pk 8 (packB w l)) = l := by
  rw [pk_packB w l h, dg_pk w l h]
theorem pack_unpack (w n : Nat) (b : List Nat) (hb : ∀ a ∈ b, a < 256) (hl : b.length = sz n w) (hv : pk 8 b < 2 ^ (w * n)) : packB w (dg w n (pk 8 b)) = b := by
  unfold packB
  rw [dg_length, pk_dg, Nat.mod_eq_of_lt hv, ← hl, dg_pk 8 b hb]
theorem packB_append (w : Nat) (a b : List Nat) (ha : ∀ x ∈ a, x < 2 ^ w) (h8 : a.length * w % 8 = 0) : packB w (a ++ b) = packB w a ++ packB w b := by
  have hs : 8 * sz a.length w = w * a.length := by unfold sz; rw [Nat.mul_comm w]; omega
  have hs2 : sz (a ++ b).length w = sz a.length w + sz b.length w := by
    unfold sz; rw [List.length_append, Nat.add_mul]; omega
  unfold packB
  rw [hs2, dg_add, pk_append]
  congr 1
  · rw [← hs, dg_over]
  · rw [hs, Nat.add_mul_div_left _ _ (Nat.two_pow_pos _), Nat.div_eq_of_lt (pk_lt w a ha), Nat.zero_add]
end Go.Proofs.YtmjpjllbfgkfbaaDoor

/- Plain facts on the plain form: numbers with a sign, each turned by Zig, as short numbers, one behind the other. No program, no condition. -/
namespace Go.Proofs.YtmjpjllbfgkfbaaDoor
open Go.RowKit
set_option linter.unusedVariables false
set_option linter.unusedSimpArgs false
set_option maxRecDepth 100000

/-- A number of 64 bits with a sign. -/
def In64 (z : Int) : Prop := -9223372036854775808 ≤ z ∧ z ≤ 9223372036854775807
/-- What Zig makes of it. -/
def zg (z : Int) : Nat := (zigI z).toNat
theorem zg_int {z : Int} (h : In64 z) : zigI z = (zg z : Int) ∧ zg z < 18446744073709551616 := by
  have := zigI_range z h.1 h.2
  unfold zg; omega
theorem zagI_zg {z : Int} (h : In64 z) : zagI (zg z : Int) = z := by rw [← (zg_int h).1, zag_zig]
theorem zg_zagI (v : Nat) : zg (zagI (v : Int)) = v := by unfold zg; rw [zig_zag _ (by omega)]; omega
theorem zagI_in {v : Nat} (h : v < 18446744073709551616) : In64 (zagI (v : Int)) := zagI_range _ (by omega) (by omega)
/-- The plain form. -/
def pl (l : List Int) : List Nat := l.flatMap fun z => vb (zg z)
theorem pl_nil : pl [] = [] := rfl
theorem pl_append (l m : List Int) : pl (l ++ m) = pl l ++ pl m := by simp [pl]
theorem pl_one (z : Int) : pl [z] = vb (zg z) := by simp [pl]
theorem take_snoc {α : Type} {l : List α} {k : Nat} {z : α} (h : l[k]? = some z) : l.take (k + 1) = l.take k ++ [z] := by rw [List.take_add_one, h]; rfl
theorem pl_step {l : List Int} {k : Nat} {z : Int} (h : l[k]? = some z) : pl (l.take (k + 1)) = pl (l.take k) ++ vb (zg z) := by rw [take_snoc h, pl_append, pl_one]
theorem pl_cons (z : Int) (l : List Int) : pl (z :: l) = vb (zg z) ++ pl l := by simp [pl]
theorem pl_length (l : List Int) : l.length ≤ (pl l).length ∧ (pl l).length ≤ 10 * l.length := by
  induction l with
  | nil => simp [pl]
  | cons z l ih =>
    have := vb_length (zg z)
    rw [pl_cons, List.length_append, List.length_cons]; omega
theorem pl_byte (l : List Int) (h : ∀ z ∈ l, In64 z) : ∀ b ∈ pl l, b < 256 := by
  intro b hb
  obtain ⟨z, hz, hb⟩ := List.mem_flatMap.1 hb
  exact vb_byte _ (zg_int (h z hz)).2 b hb
/-! How many bytes a short number has, by its bits. -/
theorem or_one (v : Nat) : 0 < v ||| 1 ∧ (v ||| 1) / 2 = v / 2 := by
  have h : (v ||| 1).testBit 0 = true := by simp
  have h2 : (v ||| 1) / 2 = v / 2 := by
    apply Nat.eq_of_testBit_eq
    intro i
    rw [Nat.testBit_div_two, Nat.testBit_or, Nat.testBit_div_two]
    have : Nat.testBit 1 (i + 1) = false := by rw [Nat.testBit_succ]; simp
    rw [this, Bool.or_false]
  refine ⟨?_, h2⟩
  rcases Nat.eq_zero_or_pos (v ||| 1) with h0 | h0
  · rw [h0] at h; simp at h
  · exact h0
theorem blen_one (v : Nat) : blen (v ||| 1) = blen (v / 2) + 1 := by rw [blen_half _ (or_one v).1, (or_one v).2]
theorem blen7 : ∀ b : Fin 128, 64 ≤ b.val → blen b.val = 7 := by decide +kernel
theorem vb_size (v : Nat) : v < 18446744073709551616 → (vb v).length = (blen (v / 2) + 7) / 7 := by
  induction v using Nat.strongRecOn with
  | ind v ih =>
    intro hv
    by_cases h : v < 128
    · have := (blen_le (v / 2) 6).2 (by omega)
      rw [vb_small v h, List.length_singleton]; omega
    · rw [vb_big v h hv, List.length_cons, ih (v / 128) (by omega) (by omega)]
      by_cases h2 : v < 256
      · have h3 := blen7 ⟨v / 2, by omega⟩ (by simp only; omega)
        simp only at h3
        have h4 : v / 128 / 2 = 0 := by omega
        rw [h3, h4]
        rfl
      · have h3 := Go.Proofs.YtmjpjllbfgkfbaaDoor.blen_half
        have e : blen (v / 2) = blen (v / 128 / 2) + 7 := by
          rw [h3 (v / 2) (by omega), h3 (v / 2 / 2) (by omega), h3 (v / 2 / 2 / 2) (by omega), h3 (v / 2 / 2 / 2 / 2) (by omega), h3 (v / 2 / 2 / 2 / 2 / 2) (by omega), h3 (v / 2 / 2 / 2 / 2 / 2 / 2) (by omega), h3 (v / 2 / 2 / 2 / 2 / 2 / 2 / 2) (by omega)]
          rw [show v / 2 / 2 / 2 / 2 / 2 / 2 / 2 / 2 = v / 128 / 2 by omega]
        omega
end Go.Proofs.YtmjpjllbfgkfbaaDoor

/- Plain facts on runs: a list's runs, each as long as may be; the list that runs make; the form of runs. No program, no condition. -/
namespace Go.Proofs.YtmjpjllbfgkfbaaDoor
open Go.RowKit
set_option linter.unusedVariables false
set_option linter.unusedSimpArgs false
set_option maxRecDepth 100000

/-- One number more ahead. -/
def runC (x : Int) : List (Int × Nat) → List (Int × Nat)
  | [] => [(x, 1)]
  | (y, n) :: r => if y = x then (x, n + 1) :: r else (x, 1) :: (y, n) :: r
theorem runC_cons (x y : Int) (n : Nat) (r : List (Int × Nat)) : runC x ((y, n) :: r) = if y = x then (x, n + 1) :: r else (x, 1) :: (y, n) :: r := rfl
/-- The runs of a list. -/
def runs : List Int → List (Int × Nat)
  | [] => []
  | x :: l => runC x (runs l)
/-- What runs make. -/
def expd (r : List (Int × Nat)) : List Int := r.flatMap fun p => List.replicate p.2 p.1
/-- Runs that are runs of a list: none is empty, none has its neighbour's number. -/
def Good : List (Int × Nat) → Prop
  | [] => True
  | (x, n) :: r => 0 < n ∧ (r.head?.map Prod.fst ≠ some x) ∧ Good r
theorem expd_cons (p : Int × Nat) (r : List (Int × Nat)) : expd (p :: r) = List.replicate p.2 p.1 ++ expd r := by simp [expd]
theorem expd_append (r s : List (Int × Nat)) : expd (r ++ s) = expd r ++ expd s := by simp [expd]
theorem runC_expd (x : Int) (r : List (Int × Nat)) : expd (runC x r) = x :: expd r := by
  cases r with
  | nil => rfl
  | cons p r =>
    obtain ⟨y, n⟩ := p
    rw [runC_cons]
    split
    · rename_i h; subst h
      rw [expd_cons, expd_cons]; rfl
    · rw [expd_cons]; rfl
theorem expd_runs : ∀ l : List Int, expd (runs l) = l
  | [] => rfl
  | x :: l => by show expd (runC x (runs l)) = _; rw [runC_expd, expd_runs l]
theorem runC_good (x : Int) {r : List (Int × Nat)} (h : Good r) : Good (runC x r) := by
  cases r with
  | nil => exact ⟨by omega, by simp, trivial⟩
  | cons p r =>
    obtain ⟨y, n⟩ := p
    rw [runC_cons]
    split
    · rename_i e; subst e
      exact ⟨by omega, h.2.1, h.2.2⟩
    · rename_i e
      exact ⟨by omega, by simpa using e, h⟩
theorem good_runs : ∀ l : List Int, Good (runs l)
  | [] => trivial
  | x :: l => runC_good x (good_runs l)
theorem runC_rep (x : Int) (r : List (Int × Nat)) (h : r.head?.map Prod.fst ≠ some x) : runC x r = (x, 1) :: r := by
  cases r with
  | nil => rfl
  | cons p r =>
    obtain ⟨y, n⟩ := p
    rw [runC_cons]
    rw [if_neg (by simpa using h)]
theorem runs_rep (x : Int) (l : List Int) (h : (runs l).head?.map Prod.fst ≠ some x) : ∀ n, runs (List.replicate (n + 1) x ++ l) = (x, n + 1) :: runs l
  | 0 => runC_rep x _ h
  | n + 1 => by
    show runC x (runs (List.replicate (n + 1) x ++ l)) = _
    rw [runs_rep x l h n]
    rw [runC_cons]
    rw [if_pos rfl]
/-- The runs of what good runs make are those. -/
theorem runs_expd : ∀ r, Good r → runs (expd r) = r
  | [], _ => rfl
  | (x, n) :: r, h => by
    have ih := runs_expd r h.2.2
    obtain ⟨m, rfl⟩ : ∃ m, n = m + 1 := ⟨n - 1, by have := h.1; omega⟩
    rw [expd_cons, runs_rep x _ (by rw [ih]; exact h.2.1) m, ih]
theorem runC_head (x : Int) (r : List (Int × Nat)) : ((runC x r).head?.map Prod.fst) = some x := by
  cases r with
  | nil => rfl
  | cons p r => obtain ⟨y, n⟩ := p; rw [runC_cons]; split <;> rfl
theorem runs_head (l : List Int) : (runs l).head?.map Prod.fst = l.head? := by
  cases l with
  | nil => rfl
  | cons x l => exact runC_head x _
/-- How many runs a list has. -/
def rc (l : List Int) : Nat := (runs l).length
theorem rc_nil : rc [] = 0 := rfl
theorem rc_cons (x : Int) (l : List Int) : rc (x :: l) = rc l + if l.head? = some x then 0 else 1 := by
  have h := runs_head l
  unfold rc
  show (runC x (runs l)).length = _
  rw [← h]
  cases hr : runs l with
  | nil => rfl
  | cons p r =>
    obtain ⟨y, n⟩ := p
    rw [runC_cons]
    by_cases e : y = x
    · rw [if_pos e, if_pos (by simp [e])]; rfl
    · rw [if_neg e, if_neg (by simpa using e)]; rfl
theorem rc_le : ∀ l : List Int, rc l ≤ l.length
  | [] => Nat.le_refl _
  | x :: l => by
    have := rc_le l
    rw [rc_cons, List.length_cons]; split <;> omega
theorem rc_rep (v : Int) : ∀ n, rc (List.replicate n v) = min 1 n
  | 0 => rfl
  | n + 1 => by
    have := runs_rep v [] (by simp [runs]) n
    rw [List.append_nil] at this
    unfold rc
    rw [this]
    show 1 = _
    omega
/-- Two lists, one behind the other. -/
theorem rc_parts (b : List Int) (hb : b ≠ []) : ∀ a : List Int, a ≠ [] → rc (a ++ b) + (if a.getLast? = b.head? then 1 else 0) = rc a + rc b
  | [], h => absurd rfl h
  | [x], _ => by
    have e : rc [x] = 1 := rfl
    rw [List.singleton_append, rc_cons, e]
    rw [show ([x] : List Int).getLast? = some x from rfl]
    by_cases h : b.head? = some x
    · rw [if_pos h, if_pos h.symm]; omega
    · rw [if_neg h, if_neg (fun k => h k.symm)]; omega
  | x :: y :: a, _ => by
    have ih := rc_parts b hb (y :: a) (by simp)
    rw [List.cons_append, rc_cons, rc_cons x (y :: a), List.getLast?_cons_cons]
    rw [show ((y :: a) ++ b).head? = (y :: a).head? from rfl]
    omega
/-! Runs by index: where each begins. -/
/-- How many numbers the first so many runs have. -/
def pos (r : List (Int × Nat)) (k : Nat) : Nat := (expd (r.take k)).length
theorem pos_zero (r : List (Int × Nat)) : pos r 0 = 0 := rfl
theorem pos_succ {r : List (Int × Nat)} {k : Nat} {x : Int} {n : Nat} (h : r[k]? = some (x, n)) : pos r (k + 1) = pos r k + n := by
  unfold pos
  rw [List.take_add_one, h, expd_append, List.length_append]
  show _ + (expd [(x, n)]).length = _
  rw [expd_cons]
  simp [expd]
theorem pos_all (l : List Int) : pos (runs l) (rc l) = l.length := by
  unfold pos rc
  rw [List.take_length, expd_runs]
theorem good_at : ∀ {r : List (Int × Nat)} {k : Nat} {x : Int} {n : Nat}, Good r → r[k]? = some (x, n) → 0 < n ∧ ((r.drop (k + 1)).head?.map Prod.fst ≠ some x)
  | p :: r, 0, x, n, h, e => by
    simp at e
    subst e
    exact ⟨h.1, by simpa using h.2.1⟩
  | p :: r, k + 1, x, n, h, e => by
    have := good_at (r := r) (k := k) h.2.2 (by simpa using e)
    simpa using this
theorem expd_head : ∀ {r : List (Int × Nat)}, Good r → (expd r).head? = r.head?.map Prod.fst
  | [], _ => rfl
  | (x, n) :: r, h => by
    obtain ⟨m, rfl⟩ : ∃ m, n = m + 1 := ⟨n - 1, by have := h.1; omega⟩
    rw [expd_cons]; rfl
theorem good_drop : ∀ {r : List (Int × Nat)} (k : Nat), Good r → Good (r.drop k)
  | r, 0, h => h
  | [], k + 1, _ => trivial
  | p :: r, k + 1, h => good_drop (r := r) k h.2.2
/-- A run stands in its list: there, so often, and no longer. -/
theorem run_at {l : List Int} {k : Nat} {x : Int} {n : Nat} (h : (runs l)[k]? = some (x, n)) :
    0 < n ∧ pos (runs l) k + n ≤ l.length ∧ (∀ j, j < n → l[pos (runs l) k + j]? = some x) ∧ (∀ z, l[pos (runs l) k + n]? = some z → z ≠ x) := by
  obtain ⟨hk, _⟩ := List.getElem?_eq_some_iff.1 h
  obtain ⟨h1, h2⟩ := good_at (good_runs l) h
  have hs : l = expd ((runs l).take k) ++ (List.replicate n x ++ expd ((runs l).drop (k + 1))) := by
    have e1 : runs l = (runs l).take k ++ ((x, n) :: (runs l).drop (k + 1)) := by
      have e2 : (runs l).drop k = (x, n) :: (runs l).drop (k + 1) := by
        rw [List.drop_eq_getElem_cons hk, (List.getElem?_eq_some_iff.1 h).2]
      rw [← e2, List.take_append_drop]
    have := expd_runs l
    rw [e1, expd_append, expd_cons] at this
    exact this.symm
  obtain ⟨q, hq⟩ : ∃ q, q = pos (runs l) k := ⟨_, rfl⟩
  have hp : (expd ((runs l).take k)).length = q := by rw [hq]; rfl
  have hd : (expd ((runs l).drop (k + 1))).head? ≠ some x := by rw [expd_head (good_drop _ (good_runs l))]; exact h2
  rw [← hq]
  refine ⟨h1, ?_, ?_, ?_⟩
  · have := congrArg List.length hs
    rw [List.length_append, List.length_append, List.length_replicate, hp] at this
    omega
  · intro j hj
    have e := congrArg (fun m : List Int => m[q + j]?) hs
    rw [e, List.getElem?_append_right (by omega), hp, Nat.add_sub_cancel_left, List.getElem?_append_left (by simpa using hj), List.getElem?_replicate, if_pos hj]
  · intro z hz e
    subst e
    have e := congrArg (fun m : List Int => m[q + n]?) hs
    rw [e, List.getElem?_append_right (by omega), hp, Nat.add_sub_cancel_left, List.getElem?_append_right (by simp), List.length_replicate, Nat.sub_self] at hz
    rw [List.head?_eq_getElem?] at hd
    exact hd hz
theorem pos_lt {l : List Int} {k : Nat} (h : k < rc l) : pos (runs l) k < l.length := by
  have := run_at (l := l) (k := k) (x := ((runs l)[k]'h).1) (n := ((runs l)[k]'h).2) (List.getElem?_eq_getElem h)
  omega
/-! The form of runs. -/
/-- How often, less 1, and the number, as they stand one behind the other. -/
def ilv (r : List (Int × Nat)) : List Int := r.flatMap fun p => [zagI ((p.2 - 1 : Nat) : Int), p.1]
/-- The form of runs. -/
def rf (r : List (Int × Nat)) : List Nat := pl (ilv r)
theorem ilv_append (r s : List (Int × Nat)) : ilv (r ++ s) = ilv r ++ ilv s := by simp [ilv]
theorem ilv_length : ∀ r : List (Int × Nat), (ilv r).length = 2 * r.length
  | [] => rfl
  | p :: r => by
    have := ilv_length r
    show ([_, _] ++ ilv r).length = _
    rw [List.length_append, this, List.length_cons]
    simp
    omega
theorem rf_step {r : List (Int × Nat)} {k : Nat} {x : Int} {n : Nat} (h : r[k]? = some (x, n)) : rf (r.take (k + 1)) = rf (r.take k) ++ (vb (n - 1) ++ vb (zg x)) := by
  unfold rf
  rw [List.take_add_one, h, ilv_append, pl_append]
  congr 1
  show pl [zagI ((n - 1 : Nat) : Int), x] = _
  rw [pl_cons, pl_one, zg_zagI]
theorem rf_length (r : List (Int × Nat)) : (rf r).length ≤ 20 * r.length := by
  have := (pl_length (ilv r)).2
  rw [ilv_length] at this
  unfold rf
  omega
end Go.Proofs.YtmjpjllbfgkfbaaDoor

/- Plain arithmetic of 64 bits. No program. -/
namespace Go.Proofs.YtmjpjllbfgkfbaaDoor
open Go.RowKit
set_option linter.unusedVariables false
set_option linter.unusedSimpArgs false

theorem u64w (n : Int) : IntKind.u64.wrap n = n % 18446744073709551616 := by simp [IntKind.wrap, IntKind.bits, IntKind.signed]
theorem w64 (n : Int) : wrap64 n = (n + 9223372036854775808) % 18446744073709551616 - 9223372036854775808 := by unfold wrap64; rfl
theorem w64_in (n : Int) : In64 (wrap64 n) := by rw [w64]; unfold In64; omega
theorem w64_id {n : Int} (h : In64 n) : wrap64 n = n := by unfold In64 at h; rw [w64]; omega
end Go.Proofs.YtmjpjllbfgkfbaaDoor
