/-
  Kinds: rows in the making, rows in the marking.
-/
import Derived.Test.YtlifkfemdknndaaORow
import Derived.Test.YtlifkfemdknndaaPInt
import Derived.Test.YtlifkfemdknndaaKept
import Derived.Test.YtlifkfemdknndaaWld
import Derived.Laws.MakeOwn
/-
  Kinds: what a value of the laws' types holds, where its rows lie, how much of it there is, and what the laws' marks put into it; by combinators: a number, a truth, a row, two side by side.
-/
namespace Go.Proofs.Ytlifkfemdknndaa
open Go.RowKit
set_option linter.unusedSimpArgs false
set_option linter.unusedVariables false

/-- a row: its place, its room, what it holds -/
structure Lst (α : Type) where
  p : Option Addr
  c : Nat
  l : List α

/-- a kind: cells, what may be read, what is its own, the blocks of its rows, its plain value, how much there is of it, and what marks put in (within a row; of a value by itself) -/
structure Knd (α β : Type) where
  sz : Nat
  cells : α → List Value
  val : α → Value
  rd : World → α → Prop
  ow : World → α → Prop
  foot : α → List Nat
  pl : α → β
  size : α → Nat
  cnt : α → Nat
  mkd : α → Int → Prop
  vcnt : α → Nat
  vmkd : α → Int → Prop
  zero : α
  tys : List Nat

structure KLaw {α β : Type} (K : Knd α β) : Prop where
  len : ∀ a, (K.cells a).length = K.sz
  pos : 0 < K.sz
  rd_blw : ∀ {w w' : World} {a : α}, K.rd w a → Below w.heap.size w w' → K.rd w' a
  ow_of : ∀ {w w' : World} {a : α}, K.ow w a → (∀ b ∈ K.foot a, w'.heap[b]? = w.heap[b]?) → K.ow w' a
  ow_lt : ∀ {w : World} {a : α}, K.ow w a → ∀ b ∈ K.foot a, b < w.heap.size
  ow_rd : ∀ {w : World} {a : α}, K.ow w a → K.rd w a
  one : ∀ a, ∀ v ∈ K.cells a, v.oneCell' = true
  ow_ty : ∀ {w : World} {a : α}, K.ow w a → ∀ b ∈ K.foot a, ∃ (cur : Array Value) (E : Nat), E ∈ K.tys ∧ w.heap[b]? = some (.cells cur E (0, 0))
  zow : ∀ w, K.ow w K.zero
  zfoot : K.foot K.zero = []
  cnt_le : ∀ a, K.cnt a ≤ K.sz + 7 * K.size a
  vcnt_le : ∀ a, K.vcnt a ≤ 7 * K.size a

def gInt : Knd Int Int := { sz := 1, cells := fun a => [.int .i64 a], val := fun a => .int .i64 a, rd := fun _ _ => True, ow := fun _ _ => True, foot := fun _ => [], pl := fun a => a, size := fun _ => 0, cnt := fun _ => 1, mkd := fun a k => a = k, vcnt := fun _ => 0, vmkd := fun _ _ => True, zero := 0, tys := [] }
def gBool : Knd Bool Bool := { sz := 1, cells := fun a => [.bool a], val := fun a => .bool a, rd := fun _ _ => True, ow := fun _ _ => True, foot := fun _ => [], pl := fun a => a, size := fun _ => 0, cnt := fun _ => 1, mkd := fun a k => a = (k % 3 == 0), vcnt := fun _ => 0, vmkd := fun _ _ => True, zero := false, tys := [] }
def gPair {α β γ δ : Type} (K : Knd α β) (L : Knd γ δ) : Knd (α × γ) (β × δ) :=
  { sz := K.sz + L.sz, cells := fun a => K.cells a.1 ++ L.cells a.2, val := fun a => .agg (K.cells a.1 ++ L.cells a.2).toArray, rd := fun w a => K.rd w a.1 ∧ L.rd w a.2, ow := fun w a => K.ow w a.1 ∧ L.ow w a.2,
    foot := fun a => K.foot a.1 ++ L.foot a.2, pl := fun a => (K.pl a.1, L.pl a.2), size := fun a => K.size a.1 + L.size a.2, cnt := fun a => K.cnt a.1 + L.cnt a.2, mkd := fun a k => K.mkd a.1 k ∧ L.mkd a.2 (k + K.cnt a.1),
    vcnt := fun a => K.vcnt a.1 + L.vcnt a.2, vmkd := fun a k => K.vmkd a.1 k ∧ L.vmkd a.2 (k + K.vcnt a.1), zero := (K.zero, L.zero), tys := K.tys ++ L.tys }
/-- by itself a struct -/
def gRec {α β : Type} (K : Knd α β) : Knd α β := { K with val := fun a => .agg (K.cells a).toArray }

def blk {α : Type} (a : Lst α) : List Nat := match a.l, a.p with
  | [], _ => []
  | _ :: _, some x => [x.block]
  | _ :: _, none => []
def mkdL {α β : Type} (K : Knd α β) : List α → Int → Prop
  | [], _ => True
  | x :: l, k => K.mkd x k ∧ mkdL K l (k + K.cnt x)
def cntL {α β : Type} (K : Knd α β) (l : List α) : Nat := (l.map K.cnt).sum
def gLst {α β : Type} (E : Nat) (K : Knd α β) : Knd (Lst α) (List β) :=
  { sz := 1, cells := fun a => [.slice a.p a.l.length a.c], val := fun a => .slice a.p a.l.length a.c,
    rd := fun w a => a.l.length ≤ a.c ∧ a.c ≤ 9223372036854775807 ∧ (a.l = [] ∨ ∃ b off, a.p = some ⟨b, off, none⟩ ∧ b < w.heap.size ∧ ∀ k (h : k < a.l.length) (j : Nat) (v : Value), (K.cells a.l[k])[j]? = some v → w.cell? ⟨b, off + k * K.sz + j, none⟩ = some v) ∧ ∀ x ∈ a.l, K.rd w x,
    ow := fun w a => a.l.length ≤ a.c ∧ a.c ≤ 9223372036854775807 ∧ (a.l = [] ∨ ∃ b, a.p = some ⟨b, 0, none⟩ ∧ ORow E K.sz w b a.c a.l.length (a.l.flatMap K.cells)) ∧ ∀ x ∈ a.l, K.ow w x,
    foot := fun a => blk a ++ a.l.flatMap K.foot, pl := fun a => a.l.map K.pl, size := fun a => a.l.length + (a.l.map K.size).sum, cnt := fun a => cntL K a.l, mkd := fun a k => mkdL K a.l k, vcnt := fun a => cntL K a.l, vmkd := fun a k => mkdL K a.l k, zero := ⟨none, 0, []⟩, tys := E :: K.tys }

theorem gInt_law : KLaw gInt := ⟨fun _ => rfl, by decide, fun _ _ => trivial, fun _ _ => trivial, fun _ b h => by simp [gInt] at h, fun _ => trivial, fun a v h => by simp [gInt] at h; subst h; rfl, fun _ b h => by simp [gInt] at h, fun _ => trivial, rfl, fun _ => by simp [gInt], fun _ => by simp [gInt]⟩
theorem gBool_law : KLaw gBool := ⟨fun _ => rfl, by decide, fun _ _ => trivial, fun _ _ => trivial, fun _ b h => by simp [gBool] at h, fun _ => trivial, fun a v h => by simp [gBool] at h; subst h; rfl, fun _ b h => by simp [gBool] at h, fun _ => trivial, rfl, fun _ => by simp [gBool], fun _ => by simp [gBool]⟩
theorem gPair_law {α β γ δ : Type} {K : Knd α β} {L : Knd γ δ} (hK : KLaw K) (hL : KLaw L) : KLaw (gPair K L) where
  len a := by simp [gPair, hK.len, hL.len]
  pos := by have := hK.pos; simp only [gPair]; omega
  rd_blw h hb := ⟨hK.rd_blw h.1 hb, hL.rd_blw h.2 hb⟩
  ow_of h hb := ⟨hK.ow_of h.1 (fun b hm => hb b (List.mem_append.2 (.inl hm))), hL.ow_of h.2 (fun b hm => hb b (List.mem_append.2 (.inr hm)))⟩
  ow_lt h b hm := by
    rcases List.mem_append.1 hm with hm | hm
    · exact hK.ow_lt h.1 b hm
    · exact hL.ow_lt h.2 b hm
  ow_rd h := ⟨hK.ow_rd h.1, hL.ow_rd h.2⟩
  one a v hv := by
    rcases List.mem_append.1 hv with hv | hv
    · exact hK.one _ v hv
    · exact hL.one _ v hv
  ow_ty h b hm := by
    rcases List.mem_append.1 hm with hm | hm
    · obtain ⟨c, E, h1, h2⟩ := hK.ow_ty h.1 b hm; exact ⟨c, E, List.mem_append.2 (.inl h1), h2⟩
    · obtain ⟨c, E, h1, h2⟩ := hL.ow_ty h.2 b hm; exact ⟨c, E, List.mem_append.2 (.inr h1), h2⟩
  zow w := ⟨hK.zow w, hL.zow w⟩
  zfoot := by simp [gPair, hK.zfoot, hL.zfoot]
  cnt_le a := by have h1 := hK.cnt_le a.1; have h2 := hL.cnt_le a.2; simp only [gPair]; omega
  vcnt_le a := by have h1 := hK.vcnt_le a.1; have h2 := hL.vcnt_le a.2; simp only [gPair]; omega
theorem gRec_law {α β : Type} {K : Knd α β} (h : KLaw K) : KLaw (gRec K) := ⟨h.len, h.pos, h.rd_blw, h.ow_of, h.ow_lt, h.ow_rd, h.one, h.ow_ty, h.zow, h.zfoot, h.cnt_le, h.vcnt_le⟩

theorem cntL_cons {α β : Type} (K : Knd α β) (x : α) (l : List α) : cntL K (x :: l) = K.cnt x + cntL K l := by simp [cntL]
theorem cntL_app {α β : Type} (K : Knd α β) (a b : List α) : cntL K (a ++ b) = cntL K a + cntL K b := by simp [cntL, List.sum_append]
theorem cntL_le {α β : Type} {K : Knd α β} (hK : KLaw K) (h7 : K.sz ≤ 7) : ∀ l : List α, cntL K l ≤ 7 * (l.length + (l.map K.size).sum)
  | [] => by simp [cntL]
  | x :: l => by
    have ih := cntL_le hK h7 l
    have := hK.cnt_le x
    simp only [cntL_cons, List.length_cons, List.map_cons, List.sum_cons]
    omega
theorem cntL_take {α β : Type} (K : Knd α β) {l : List α} {k : Nat} (hk : k < l.length) : cntL K (l.take (k + 1)) = cntL K (l.take k) + K.cnt l[k] := by
  rw [List.take_succ_eq_append_getElem hk, cntL_app]; simp [cntL]
theorem cntL_part {α β : Type} (K : Knd α β) (l : List α) (k : Nat) : cntL K (l.take k) ≤ cntL K l := by
  have h := cntL_app K (l.take k) (l.drop k)
  rw [List.take_append_drop] at h
  omega
theorem size_take {α β : Type} (K : Knd α β) {l : List α} {k : Nat} (hk : k < l.length) : ((l.take (k + 1)).map K.size).sum = ((l.take k).map K.size).sum + K.size l[k] := by
  rw [List.take_succ_eq_append_getElem hk, List.map_append, List.sum_append]; simp
theorem size_part {α β : Type} (K : Knd α β) (l : List α) (k : Nat) : ((l.take k).map K.size).sum ≤ (l.map K.size).sum := by
  have h : ((l.take k ++ l.drop k).map K.size).sum = ((l.take k).map K.size).sum + ((l.drop k).map K.size).sum := by rw [List.map_append, List.sum_append]
  rw [List.take_append_drop] at h
  omega
theorem size_le {α β : Type} (K : Knd α β) {l : List α} {k : Nat} (hk : k < l.length) : K.size l[k] ≤ (l.map K.size).sum := by
  have h1 := size_take K hk
  have h2 := size_part K l (k + 1)
  omega
theorem mkdL_app {α β : Type} (K : Knd α β) : ∀ (a : List α) (k : Int) (b : List α), mkdL K (a ++ b) k ↔ mkdL K a k ∧ mkdL K b (k + cntL K a)
  | [], k, b => by simp [mkdL, cntL]
  | x :: a, k, b => by
    simp only [List.cons_append, mkdL, cntL_cons, mkdL_app K a, and_assoc]
    rw [show k + (K.cnt x : Int) + (cntL K a : Int) = k + ((K.cnt x + cntL K a : Nat) : Int) by push_cast; omega]
theorem mkdL_at {α β : Type} {K : Knd α β} {l : List α} {k0 : Int} {k : Nat} (h : mkdL K l k0) (hk : k < l.length) : K.mkd l[k] (k0 + cntL K (l.take k)) := by
  have e : l = l.take k ++ l[k] :: l.drop (k + 1) := by rw [← List.drop_eq_getElem_cons hk, List.take_append_drop]
  have h' := h
  rw [e] at h'
  exact ((mkdL_app K _ _ _).1 h').2.1

/-- cells of a row, by place -/
theorem flat_get {α : Type} {f : α → List Value} {s : Nat} (hs : ∀ a, (f a).length = s) : ∀ (l : List α) (k j : Nat) (hk : k < l.length), j < s → (l.flatMap f)[k * s + j]? = (f l[k])[j]?
  | x :: l, 0, j, _, hj => by
    simp only [List.flatMap_cons, Nat.zero_mul, Nat.zero_add]
    rw [List.getElem?_append_left (by rw [hs]; exact hj)]
    rfl
  | x :: l, k + 1, j, hk, hj => by
    have ih := flat_get hs l k j (by simpa using hk) hj
    have e : (k + 1) * s + j = (k * s + j) + s := by rw [Nat.succ_mul]; omega
    rw [List.flatMap_cons, e, List.getElem?_append_right (by rw [hs]; omega), hs, Nat.add_sub_cancel, ih]
    rfl
theorem flat_len {α : Type} {f : α → List Value} {s : Nat} (hs : ∀ a, (f a).length = s) : ∀ l : List α, (l.flatMap f).length = l.length * s
  | [] => by simp
  | x :: l => by rw [List.flatMap_cons, List.length_append, hs, flat_len hs l, List.length_cons, Nat.succ_mul]; omega
theorem ORow.cur {E s : Nat} {w : World} {b cap n : Nat} {cs : List Value} (h : ORow E s w b cap n cs) : ∃ cur : Array Value, w.heap[b]? = some (.cells cur E (0, 0)) ∧ cur.size = cap * s ∧ n ≤ cap ∧ cs.length = n * s ∧ ∀ i, i < n * s → cur[i]? = cs[i]? := by
  obtain ⟨cur, h1, h2, h3, h4, h5⟩ := h
  refine ⟨cur, h1, h2, h3, h4, fun i hi => ?_⟩
  have e : (cur.toList.take (n * s))[i]? = cs[i]? := by rw [h5]
  rw [List.getElem?_take, if_pos hi] at e
  simpa using e
theorem ORow.mk' {E s : Nat} {w : World} {b cap n : Nat} {cs : List Value} {cur : Array Value} (h1 : w.heap[b]? = some (.cells cur E (0, 0))) (h2 : cur.size = cap * s) (h3 : n ≤ cap) (h4 : cs.length = n * s) (h5 : ∀ i, i < n * s → cur[i]? = cs[i]?) : ORow E s w b cap n cs := by
  refine ⟨cur, h1, h2, h3, h4, ?_⟩
  apply List.ext_getElem?
  intro i
  rw [List.getElem?_take]
  by_cases hi : i < n * s
  · rw [if_pos hi]; simpa using h5 i hi
  · rw [if_neg hi, List.getElem?_eq_none (by omega)]

/-- cells of one element, one behind the other, are written -/
def putC (w : World) (b : Nat) : List (Nat × Value) → World
  | [] => w
  | x :: l => putC (w.setCell ⟨b, x.1, none⟩ x.2) b l
def putA (cur : Array Value) : List (Nat × Value) → Array Value
  | [] => cur
  | x :: l => putA (cur.setIfInBounds x.1 x.2) l
theorem putC_heap {b : Nat} {E : TypeId} : ∀ (l : List (Nat × Value)) (w : World) (cur : Array Value), w.heap[b]? = some (.cells cur E (0, 0)) → (putC w b l).heap[b]? = some (.cells (putA cur l) E (0, 0))
  | [], _, _, h => h
  | x :: l, w, cur, h => putC_heap l _ _ (heap_set h x.1 x.2)
theorem putC_ne {b : Nat} : ∀ (l : List (Nat × Value)) (w : World) (k : Nat), k ≠ b → (putC w b l).heap[k]? = w.heap[k]?
  | [], _, _, _ => rfl
  | x :: l, w, k, h => (putC_ne l _ k h).trans (heap_set_ne h)
theorem putC_kept {b : Nat} : ∀ (l : List (Nat × Value)) (w : World), Kept (fun k => k = b) w (putC w b l)
  | [], w => Kept.refl _ _
  | x :: l, w => (Kept.setCell (D := fun k => k = b) (p := ⟨b, x.1, none⟩) w rfl x.2).trans (putC_kept l _)
theorem putC_size {b : Nat} : ∀ (l : List (Nat × Value)) (w : World), (putC w b l).heap.size = w.heap.size
  | [], w => rfl
  | x :: l, w => by rw [putC, putC_size l]; simp
theorem putA_size : ∀ (l : List (Nat × Value)) (cur : Array Value), (putA cur l).size = cur.size
  | [], _ => rfl
  | x :: l, cur => by rw [putA, putA_size l]; simp
theorem putA_out : ∀ (l : List (Nat × Value)) (cur : Array Value) (i : Nat), (∀ x ∈ l, x.1 ≠ i) → (putA cur l)[i]? = cur[i]?
  | [], _, _, _ => rfl
  | x :: l, cur, i, h => by
    rw [putA, putA_out l _ i (fun y hy => h y (List.mem_cons_of_mem _ hy))]
    have := h x (List.mem_cons_self ..)
    rw [Array.getElem?_setIfInBounds, if_neg this]
theorem putA_in : ∀ (l : List (Nat × Value)) (cur : Array Value) (i : Nat) (v : Value), (∀ x ∈ l, x.1 = i → x.2 = v) → (cur[i]? = some v ∨ ∃ x ∈ l, x.1 = i) → i < cur.size → (putA cur l)[i]? = some v
  | [], cur, i, v, _, h, _ => by
    rcases h with h | ⟨x, hx, _⟩
    · exact h
    · simp at hx
  | x :: l, cur, i, v, h1, h2, hi => by
    rw [putA]
    refine putA_in l _ i v (fun y hy => h1 y (List.mem_cons_of_mem _ hy)) ?_ (by simpa using hi)
    by_cases he : x.1 = i
    · left
      rw [Array.getElem?_setIfInBounds, if_pos he, if_pos (by omega), h1 x (List.mem_cons_self ..) he]
    · rcases h2 with h2 | ⟨y, hy, e⟩
      · left; rw [Array.getElem?_setIfInBounds, if_neg he]; exact h2
      · rcases List.mem_cons.1 hy with rfl | hy
        · exact absurd e he
        · exact .inr ⟨y, hy, e⟩

/-- an element of a row is written: vs its cells that are, by place within it -/
theorem ORow.putRow {α : Type} {E s : Nat} {f : α → List Value} (hs : ∀ a, (f a).length = s) {w : World} {b cap n : Nat} {ys : List α} (h : ORow E s w b cap n (ys.flatMap f)) {j : Nat} (hj : j < ys.length) (q : α) (vs : List (Nat × Value))
    (h1 : ∀ x ∈ vs, j * s ≤ x.1 ∧ x.1 < j * s + s ∧ (f q)[x.1 - j * s]? = some x.2) (h2 : ∀ i, i < s → (∃ x ∈ vs, x.1 = j * s + i) ∨ (f q)[i]? = (f ys[j])[i]?) :
    ORow E s (putC w b vs) b cap n ((ys.set j q).flatMap f) := by
  obtain ⟨cur, c1, c2, c3, c4, c5⟩ := h.cur
  have hn : ys.length * s = n * s := by rw [← flat_len hs ys]; exact c4
  refine ORow.mk' (putC_heap vs w cur c1) (by rw [putA_size]; exact c2) c3 (by rw [flat_len hs, List.length_set]; exact hn) (fun i hi => ?_)
  have hs0 : 0 < s := by rcases Nat.eq_zero_or_pos s with h0 | h0; · subst h0; simp at hi
                         · exact h0
  have hcs : n * s ≤ cap * s := Nat.mul_le_mul_right _ c3
  have hk : i / s < ys.length := Nat.div_lt_of_lt_mul (by rw [Nat.mul_comm, hn]; exact hi)
  have hr : i % s < s := Nat.mod_lt _ hs0
  have hi' : i = (i / s) * s + i % s := by rw [Nat.mul_comm]; exact (Nat.div_add_mod i s).symm
  generalize i / s = k at hk hi'
  generalize i % s = r at hr hi'
  subst hi'
  rw [flat_get hs _ k r (by simpa using hk) hr]
  have hcur : cur[k * s + r]? = (f ys[k])[r]? := by rw [c5 _ hi, flat_get hs _ k r hk hr]
  by_cases hkj : k = j
  · subst hkj
    simp only [List.getElem_set_self]
    obtain ⟨v, hv⟩ : ∃ v, (f q)[r]? = some v := ⟨_, List.getElem?_eq_getElem (by rw [hs]; exact hr)⟩
    rw [hv]
    refine putA_in vs cur _ v (fun x hx e => ?_) ?_ (by omega)
    · have := (h1 x hx).2.2
      rw [e, Nat.add_sub_cancel_left, hv] at this
      exact (Option.some.inj this).symm
    · rcases h2 r hr with ⟨x, hx, e⟩ | e
      · exact .inr ⟨x, hx, e⟩
      · left; rw [hcur, ← e, hv]
  · have e : (ys.set j q)[k]'(by simpa using hk) = ys[k] := List.getElem_set_ne (fun e => hkj e.symm) _
    rw [e, ← hcur]
    refine putA_out vs cur _ (fun x hx e' => ?_)
    obtain ⟨g1, g2, _⟩ := h1 x hx
    rcases Nat.lt_or_gt_of_ne hkj with hlt | hgt
    · have := Nat.mul_le_mul_right s (show k + 1 ≤ j from hlt)
      rw [Nat.succ_mul] at this
      omega
    · have := Nat.mul_le_mul_right s (show j + 1 ≤ k from hgt)
      rw [Nat.succ_mul] at this
      omega

theorem ORow.rowcell {α : Type} {E s : Nat} {f : α → List Value} (hs : ∀ a, (f a).length = s) {w : World} {b cap n : Nat} {ys : List α} (h : ORow E s w b cap n (ys.flatMap f)) {k : Nat} (hk : k < ys.length) (j : Nat) (v : Value) (hv : (f ys[k])[j]? = some v) : w.cell? ⟨b, k * s + j, none⟩ = some v := by
  have hj : j < s := by rw [← hs ys[k]]; exact (List.getElem?_eq_some_iff.1 hv).1
  exact h.get (k * s + j) v (by rw [flat_get hs _ k j hk hj]; exact hv)
theorem ORow.frz {E s : Nat} {w : World} {b cap n : Nat} {cs : List Value} (h : ORow E s w b cap n cs) (o : Nat) : w.frozen? ⟨b, o, none⟩ = false := by
  obtain ⟨cur, e1, _⟩ := h
  simp [World.frozen?, e1]

theorem blk_of {α : Type} {a : Lst α} {b : Nat} (h : a.l ≠ []) (hp : a.p = some ⟨b, 0, none⟩) : blk a = [b] := by
  unfold blk
  match hl : a.l with
  | [] => exact absurd hl h
  | _ :: _ => simp [hp]
theorem blk_nil {α : Type} {a : Lst α} (h : a.l = []) : blk a = [] := by unfold blk; rw [h]
theorem blk_same {α : Type} {a b : Lst α} (hp : a.p = b.p) (hl : a.l.length = b.l.length) : blk a = blk b := by
  unfold blk
  match h1 : a.l, h2 : b.l with
  | [], [] => rfl
  | [], _ :: _ => rw [h1, h2] at hl; simp at hl
  | _ :: _, [] => rw [h1, h2] at hl; simp at hl
  | _ :: _, _ :: _ => rw [hp]; cases b.p <;> rfl

theorem gLst_law {α β : Type} {E : Nat} {K : Knd α β} (hK : KLaw K) (h7 : K.sz ≤ 7) : KLaw (gLst E K) where
  len _ := rfl
  pos := by simp [gLst]
  rd_blw := by
    rintro w w' a ⟨h1, h2, h3, h4⟩ hb
    refine ⟨h1, h2, ?_, fun x hx => hK.rd_blw (h4 x hx) hb⟩
    rcases h3 with h3 | ⟨b, off, e, hlt, hc⟩
    · exact .inl h3
    · exact .inr ⟨b, off, e, Nat.lt_of_lt_of_le hlt hb.size, fun k hk j v hv => (hb.cell (p := ⟨b, _, none⟩) hlt).trans (hc k hk j v hv)⟩
  ow_of := by
    rintro w w' a ⟨h1, h2, h3, h4⟩ hb
    refine ⟨h1, h2, ?_, fun x hx => hK.ow_of (h4 x hx) (fun b hm => hb b (List.mem_append.2 (.inr (List.mem_flatMap.2 ⟨x, hx, hm⟩))))⟩
    by_cases h0 : a.l = []
    · exact .inl h0
    rcases h3 with h3 | ⟨b, e, hO⟩
    · exact .inl h3
    · exact .inr ⟨b, e, hO.of (hb b (List.mem_append.2 (.inl (by rw [blk_of h0 e]; simp))))⟩
  ow_lt := by
    rintro w a ⟨h1, h2, h3, h4⟩ b hm
    rcases List.mem_append.1 hm with hm | hm
    · by_cases h0 : a.l = []
      · rw [blk_nil h0] at hm; simp at hm
      rcases h3 with h3 | ⟨b', e, hO⟩
      · exact absurd h3 h0
      · rw [blk_of h0 e] at hm
        simp at hm; subst hm; exact hO.lt
    · obtain ⟨x, hx, hm⟩ := List.mem_flatMap.1 hm
      exact hK.ow_lt (h4 x hx) b hm
  ow_rd := by
    rintro w a ⟨h1, h2, h3, h4⟩
    refine ⟨h1, h2, ?_, fun x hx => hK.ow_rd (h4 x hx)⟩
    rcases h3 with h3 | ⟨b, e, hO⟩
    · exact .inl h3
    · exact .inr ⟨b, 0, e, hO.lt, fun k hk j v hv => by rw [Nat.zero_add]; exact hO.rowcell hK.len hk j v hv⟩
  one a v hv := by simp [gLst] at hv; subst hv; rfl
  ow_ty := by
    rintro w a ⟨h1, h2, h3, h4⟩ b hm
    rcases List.mem_append.1 hm with hm | hm
    · by_cases h0 : a.l = []
      · rw [blk_nil h0] at hm; simp at hm
      rcases h3 with h3 | ⟨b', e, hO⟩
      · exact absurd h3 h0
      · rw [blk_of h0 e] at hm
        simp at hm; subst hm
        obtain ⟨cur, g1, _⟩ := hO
        exact ⟨cur, E, List.mem_cons_self .., g1⟩
    · obtain ⟨x, hx, hm⟩ := List.mem_flatMap.1 hm
      obtain ⟨c, F, g1, g2⟩ := hK.ow_ty (h4 x hx) b hm
      exact ⟨c, F, List.mem_cons_of_mem _ g1, g2⟩
  zow _ := ⟨Nat.le_refl _, by simp [gLst], .inl rfl, fun x hx => by simp [gLst] at hx⟩
  zfoot := rfl
  cnt_le a := by have := cntL_le hK h7 a.l; simp only [gLst]; omega
  vcnt_le a := by have := cntL_le hK h7 a.l; simp only [gLst]; omega

/-- new: its rows are its own, each a block by itself, from M on -/
structure Fresh {α β : Type} (K : Knd α β) (M : Nat) (w : World) (a : α) : Prop where
  ow : K.ow w a
  nd : (K.foot a).Nodup
  ge : ∀ b ∈ K.foot a, M ≤ b
theorem Fresh.of {α β : Type} {K : Knd α β} (hK : KLaw K) {M : Nat} {w w' : World} {a : α} (h : Fresh K M w a) (hb : ∀ b ∈ K.foot a, w'.heap[b]? = w.heap[b]?) : Fresh K M w' a := ⟨hK.ow_of h.ow hb, h.nd, h.ge⟩
theorem Fresh.below {α β : Type} {K : Knd α β} (hK : KLaw K) {M : Nat} {w w' : World} {a : α} (h : Fresh K M w a) (hb : Below w.heap.size w w') : Fresh K M w' a := h.of hK (fun b hm => hb.block b (hK.ow_lt h.ow b hm))
theorem Fresh.mono {α β : Type} {K : Knd α β} {M M' : Nat} {w : World} {a : α} (h : Fresh K M w a) (hM : M' ≤ M) : Fresh K M' w a := ⟨h.ow, h.nd, fun b hb => Nat.le_trans hM (h.ge b hb)⟩

/-- the laws' functions, by contract -/
def ToC {α β : Type} (K : Knd α β) (F : Nat) : Prop := ∀ (a : α) (w : World), K.rd w a → K.size a ≤ 1048576 →
  Calls Try.prog F #[K.val a] w fun e w' => ∃ a', e = .returned (K.val a') ∧ K.pl a' = K.pl a ∧ K.size a' = K.size a ∧ Fresh K w.heap.size w' a' ∧ Below w.heap.size w w'
def EqC {α β : Type} (K : Knd α β) (F : Nat) : Prop := ∀ (a b : α) (w : World), K.rd w a → K.rd w b → K.pl a = K.pl b →
  Calls Try.prog F #[K.val a, K.val b] w fun e w' => e = .returned (.bool true) ∧ Below w.heap.size w w'
def SzC {α β : Type} (K : Knd α β) (F : Nat) : Prop := ∀ (a : α) (left : Int) (w : World), K.rd w a → 0 ≤ left → left ≤ 1048576 →
  Calls Try.prog F #[K.val a, .int .i64 left] w fun e w' => (∃ z : Int, e = .returned (.int .i64 z) ∧ (z = -1 ∨ (0 ≤ z ∧ z = left - (K.size a : Int)))) ∧ Below w.heap.size w w'
def MarkC {α β : Type} (K : Knd α β) (F : Nat) : Prop := ∀ (a : α) (k : Int) (w : World), K.ow w a → (K.foot a).Nodup → 0 ≤ k → k + (K.vcnt a : Int) ≤ 1000000000000000 →
  Calls Try.prog F #[K.val a, .int .i64 k] w fun e w' => e = .returned (.int .i64 (k + (K.vcnt a : Int))) ∧ Kept (fun b => b ∈ K.foot a) w w' ∧ ∃ a', K.val a' = K.val a ∧ K.cells a' = K.cells a ∧ K.foot a' = K.foot a ∧ K.vcnt a' = K.vcnt a ∧ K.ow w' a' ∧ K.vmkd a' k
def HeldC {α β : Type} (K : Knd α β) (F : Nat) : Prop := ∀ (a : α) (k : Int) (w : World), K.rd w a → K.vmkd a k → 0 ≤ k → k + (K.vcnt a : Int) ≤ 1000000000000000 →
  Calls Try.prog F #[K.val a, .int .i64 k] w fun e w' => e = .returned (.int .i64 (k + (K.vcnt a : Int))) ∧ Below w.heap.size w w'

end Go.Proofs.Ytlifkfemdknndaa

namespace Go.Proofs.Ytlifkfemdknndaa
open Go.RowKit
set_option linter.unusedSimpArgs false
set_option linter.unusedVariables false

theorem nw_k {w : World} {n : Nat} (o : Obj) (h : n = w.heap.size) : (w.alloc o).heap[n]? = some o := by
  subst h; show (w.heap.push _)[w.heap.size]? = _; simp
theorem Fresh.int (M : Nat) (w : World) (a : Int) : Fresh gInt M w a := ⟨trivial, by simp [gInt], fun b hb => by simp [gInt] at hb⟩
theorem Fresh.bool (M : Nat) (w : World) (a : Bool) : Fresh gBool M w a := ⟨trivial, by simp [gBool], fun b hb => by simp [gBool] at hb⟩
theorem Fresh.pair {α β γ δ : Type} {K : Knd α β} {L : Knd γ δ} {M M' : Nat} {w : World} {a : α} {b : γ} (h1 : Fresh K M w a) (hM : M ≤ M') (hlt : ∀ x ∈ K.foot a, x < M') (h2 : Fresh L M' w b) : Fresh (gPair K L) M w (a, b) := by
  refine ⟨⟨h1.ow, h2.ow⟩, ?_, fun x hx => ?_⟩
  · refine List.nodup_append.2 ⟨h1.nd, h2.nd, fun x hx y hy e => ?_⟩
    have := hlt x hx
    have := h2.ge y hy
    omega
  · rcases List.mem_append.1 hx with hx | hx
    · exact h1.ge x hx
    · exact Nat.le_trans hM (h2.ge x hx)
theorem Fresh.recd {α β : Type} {K : Knd α β} {M : Nat} {w : World} {a : α} (h : Fresh K M w a) : Fresh (gRec K) M w a := ⟨h.ow, h.nd, h.ge⟩
theorem lt_int (M : Nat) (a : Int) : ∀ x ∈ gInt.foot a, x < M := fun b hb => by simp [gInt] at hb
theorem lt_bool (M : Nat) (a : Bool) : ∀ x ∈ gBool.foot a, x < M := fun b hb => by simp [gBool] at hb

theorem nd2 {A B : List Nat} (h : (A ++ B).Nodup) : A.Nodup ∧ B.Nodup ∧ ∀ x ∈ B, x ∉ A := by
  obtain ⟨h1, h2, h3⟩ := List.nodup_append.1 h
  exact ⟨h1, h2, fun x hx hx' => h3 x hx' x hx rfl⟩
theorem sum_zero {α : Type} (l : List α) : (l.map (fun _ => 0)).sum = 0 := by induction l <;> simp_all

/-- a row of things that are new -/
structure FreshL {α β : Type} (K : Knd α β) (M : Nat) (w : World) (zs : List α) : Prop where
  ow : ∀ x ∈ zs, K.ow w x
  nd : (zs.flatMap K.foot).Nodup
  ge : ∀ b ∈ zs.flatMap K.foot, M ≤ b
theorem FreshL.nil {α β : Type} (K : Knd α β) (M : Nat) (w : World) : FreshL K M w [] := ⟨fun _ h => by simp at h, by simp, fun _ h => by simp at h⟩
theorem FreshL.lt {α β : Type} {K : Knd α β} (hK : KLaw K) {M : Nat} {w : World} {zs : List α} (h : FreshL K M w zs) : ∀ b ∈ zs.flatMap K.foot, b < w.heap.size := fun b hb => by
  obtain ⟨x, hx, hm⟩ := List.mem_flatMap.1 hb
  exact hK.ow_lt (h.ow x hx) b hm
theorem FreshL.of {α β : Type} {K : Knd α β} (hK : KLaw K) {M : Nat} {w w' : World} {zs : List α} (h : FreshL K M w zs) (hb : ∀ b ∈ zs.flatMap K.foot, w'.heap[b]? = w.heap[b]?) : FreshL K M w' zs :=
  ⟨fun x hx => hK.ow_of (h.ow x hx) (fun b hm => hb b (List.mem_flatMap.2 ⟨x, hx, hm⟩)), h.nd, h.ge⟩
theorem FreshL.below {α β : Type} {K : Knd α β} (hK : KLaw K) {M : Nat} {w w' : World} {zs : List α} (h : FreshL K M w zs) (hb : Below w.heap.size w w') : FreshL K M w' zs := h.of hK (fun b hm => hb.block b (h.lt hK b hm))
theorem FreshL.snoc {α β : Type} {K : Knd α β} {M M' : Nat} {w : World} {zs : List α} {x : α} (h : FreshL K M w zs) (hx : Fresh K M' w x) (hlt : ∀ b ∈ zs.flatMap K.foot, b < M') (hM : M ≤ M') : FreshL K M w (zs ++ [x]) := by
  have e : (zs ++ [x]).flatMap K.foot = zs.flatMap K.foot ++ K.foot x := by simp
  refine ⟨fun y hy => ?_, ?_, ?_⟩
  · rcases List.mem_append.1 hy with hy | hy
    · exact h.ow y hy
    · simp at hy; subst hy; exact hx.ow
  · rw [e]
    refine List.nodup_append.2 ⟨h.nd, hx.nd, fun a ha b hb e' => ?_⟩
    have := hlt a ha
    have := hx.ge b hb
    omega
  · rw [e]
    intro b hb
    rcases List.mem_append.1 hb with hb | hb
    · exact h.ge b hb
    · exact Nat.le_trans hM (hx.ge b hb)
theorem FreshL.row {α β : Type} {K : Knd α β} {E N n : Nat} {w : World} {zs : List α} (h : FreshL K (N + 1) w zs) (hO : ORow E K.sz w N n n (zs.flatMap K.cells)) (hn : zs.length = n) (hm : n ≤ 9223372036854775807) : Fresh (gLst E K) N w ⟨some ⟨N, 0, none⟩, n, zs⟩ := by
  subst hn
  refine ⟨⟨Nat.le_refl _, hm, .inr ⟨N, rfl, hO⟩, h.ow⟩, ?_, ?_⟩
  · show (blk _ ++ zs.flatMap K.foot).Nodup
    refine List.nodup_append.2 ⟨?_, h.nd, fun a ha b hb e' => ?_⟩
    · unfold blk; split <;> simp
    · by_cases h0 : zs = []
      · rw [blk_nil h0] at ha; simp at ha
      · rw [blk_of (a := ⟨some ⟨N, 0, none⟩, zs.length, zs⟩) h0 rfl] at ha
        simp at ha
        have := h.ge b hb
        omega
  · intro b hb
    rcases List.mem_append.1 hb with hb | hb
    · by_cases h0 : zs = []
      · rw [blk_nil h0] at hb; simp at hb
      · rw [blk_of (a := ⟨some ⟨N, 0, none⟩, zs.length, zs⟩) h0 rfl] at hb
        simp at hb
        omega
    · have := h.ge b hb
      omega

/-- what make leaves -/
theorem row_made {α β : Type} {K : Knd α β} (hK : KLaw K) {E : TypeId} {w : World} {n : Nat} {z : Array Value} (hz : z.toList = K.cells K.zero) : ORow E K.sz (w.alloc (.cells (madeCells z (n * K.sz)) E)) w.heap.size n n ((List.replicate n K.zero).flatMap K.cells) := by
  have hzs : z.size = K.sz := by rw [← Array.length_toList, hz, hK.len]
  refine ORow.mk' (nw_k _ rfl) (size_madeCells _ _) (Nat.le_refl _) (by rw [flat_len hK.len, List.length_replicate]) (fun i hi => ?_)
  have hs0 := hK.pos
  have hk : i / K.sz < n := Nat.div_lt_of_lt_mul (by rw [Nat.mul_comm]; exact hi)
  have hr : i % K.sz < K.sz := Nat.mod_lt _ hs0
  have e : i = (i / K.sz) * K.sz + i % K.sz := by rw [Nat.mul_comm]; exact (Nat.div_add_mod i _).symm
  have e1 : (madeCells z (n * K.sz))[i]? = some (z[i % K.sz]!) := by
    simp only [madeCells, Array.getElem?_map, hzs]
    rw [Array.getElem?_range, if_pos hi]
    rfl
  rw [e1]
  conv => rhs; rw [e]
  rw [flat_get hK.len _ _ _ (by simpa using hk) hr, List.getElem_replicate, ← hz]
  have hlt : i % K.sz < z.size := by omega
  simp [hlt]
theorem ORow.there {E s : Nat} {w : World} {b cap n : Nat} {cs : List Value} (h : ORow E s w b cap n cs) (o : Nat) (ho : o < n * s) : ∃ u, w.cell? ⟨b, o, none⟩ = some u := by
  obtain ⟨cur, h1, h2, h3, h4, _⟩ := h.cur
  have := Nat.mul_le_mul_right s h3
  exact ⟨_, (by simp [World.cell?, h1] : w.cell? ⟨b, o, none⟩ = cur[o]?).trans (Array.getElem?_eq_getElem (by omega))⟩
def rowVs : Nat → List Value → List (Nat × Value)
  | _, [] => []
  | o, v :: l => (o, v) :: rowVs (o + 1) l
theorem rowVs_mem : ∀ (l : List Value) (o : Nat) (x : Nat × Value), x ∈ rowVs o l → o ≤ x.1 ∧ x.1 < o + l.length ∧ l[x.1 - o]? = some x.2
  | v :: l, o, x, h => by
    rcases List.mem_cons.1 h with rfl | h
    · simp
    · obtain ⟨h1, h2, h3⟩ := rowVs_mem l (o + 1) x h
      refine ⟨by omega, by simp only [List.length_cons]; omega, ?_⟩
      rw [show x.1 - o = (x.1 - (o + 1)) + 1 by omega]
      simpa using h3
theorem rowVs_at : ∀ (l : List Value) (o i : Nat), i < l.length → ∃ x ∈ rowVs o l, x.1 = o + i
  | v :: l, o, 0, _ => ⟨(o, v), List.mem_cons_self .., rfl⟩
  | v :: l, o, i + 1, h => by
    obtain ⟨x, hx, e⟩ := rowVs_at l (o + 1) i (by simpa using h)
    exact ⟨x, List.mem_cons_of_mem _ hx, by omega⟩
theorem ORow.putFull {α : Type} {E s : Nat} {f : α → List Value} (hs : ∀ a, (f a).length = s) {w : World} {b cap n : Nat} {ys : List α} (h : ORow E s w b cap n (ys.flatMap f)) {j : Nat} (hj : j < ys.length) (q : α) : ORow E s (putC w b (rowVs (j * s) (f q))) b cap n ((ys.set j q).flatMap f) := by
  refine h.putRow hs hj q _ (fun x hx => ?_) (fun i hi => .inl (rowVs_at _ _ _ (by rw [hs]; exact hi)))
  obtain ⟨h1, h2, h3⟩ := rowVs_mem _ _ _ hx
  exact ⟨h1, by rw [hs] at h2; exact h2, h3⟩
theorem set_mid {α : Type} {zs : List α} {n k : Nat} {z q : α} (hz : zs.length = k) (hk : k < n) : (zs ++ List.replicate (n - k) z).set k q = (zs ++ [q]) ++ List.replicate (n - (k + 1)) z := by
  subst hz
  rw [show n - zs.length = (n - (zs.length + 1)) + 1 by omega, List.replicate_succ, List.set_append_right _ _ (Nat.le_refl _), Nat.sub_self]
  simp
theorem putC_below {b n : Nat} {a : World} (hn : n ≤ b) : ∀ (l : List (Nat × Value)) {w : World}, Below n a w → Below n a (putC w b l)
  | [], _, h => h
  | x :: l, w, h => putC_below hn l (h.setCell (p := ⟨b, x.1, none⟩) hn x.2)

/-- a row in the making: the first zs are copies -/
structure MakeSt {α β : Type} (K : Knd α β) (E : Nat) (l : List α) (N : Nat) (w : World) (k : Nat) (zs : List α) : Prop where
  len : zs.length = k
  pl : zs.map K.pl = (l.take k).map K.pl
  size : (zs.map K.size).sum = ((l.take k).map K.size).sum
  row : ORow E K.sz w N l.length l.length ((zs ++ List.replicate (l.length - k) K.zero).flatMap K.cells)
  fr : FreshL K (N + 1) w zs
theorem MakeSt.start {α β : Type} {K : Knd α β} (hK : KLaw K) {E : TypeId} {l : List α} {w : World} {z : Array Value} (hz : z.toList = K.cells K.zero) : MakeSt K E l w.heap.size (w.alloc (.cells (madeCells z (l.length * K.sz)) E)) 0 [] :=
  ⟨rfl, rfl, rfl, by simpa using row_made hK hz, FreshL.nil _ _ _⟩
theorem MakeSt.below {α β : Type} {K : Knd α β} (hK : KLaw K) {E N k : Nat} {l zs : List α} {w w' : World} (h : MakeSt K E l N w k zs) (hb : Below w.heap.size w w') : MakeSt K E l N w' k zs := ⟨h.len, h.pl, h.size, h.row.of (hb.block _ h.row.lt), h.fr.below hK hb⟩
theorem MakeSt.step {α β : Type} {K : Knd α β} (hK : KLaw K) {E N k : Nat} {l zs : List α} {w : World} {q : α} {M' : Nat} (h : MakeSt K E l N w k zs) (hk : k < l.length) (hp : K.pl q = K.pl l[k]) (hs : K.size q = K.size l[k]) (hf : Fresh K M' w q) (hlt : ∀ b ∈ zs.flatMap K.foot, b < M') (hM : N < M') :
    MakeSt K E l N (putC w N (rowVs (k * K.sz) (K.cells q))) (k + 1) (zs ++ [q]) := by
  have hne : ∀ b, N < b → (putC w N (rowVs (k * K.sz) (K.cells q))).heap[b]? = w.heap[b]? := fun b hb => putC_ne _ _ _ (by omega)
  refine ⟨by simp [h.len], ?_, ?_, ?_, ?_⟩
  · rw [List.map_append, h.pl, List.take_succ_eq_append_getElem hk, List.map_append]; simp [hp]
  · rw [List.map_append, List.sum_append, h.size, size_take K hk]; simp [hs]
  · have := h.row.putFull hK.len (j := k) (by simp [h.len]; omega) q
    rw [set_mid h.len hk] at this
    exact this
  · exact (h.fr.of hK (fun b hb => hne b (by have := h.fr.ge b hb; omega))).snoc (hf.of hK (fun b hb => hne b (by have := hf.ge b hb; omega))) hlt (by omega)
theorem MakeSt.done {α β : Type} {K : Knd α β} {E N k : Nat} {l zs : List α} {w : World} (h : MakeSt K E l N w k zs) (hk : k = l.length) (hm : l.length ≤ 9223372036854775807) : Fresh (gLst E K) N w ⟨some ⟨N, 0, none⟩, l.length, zs⟩ ∧ zs.map K.pl = l.map K.pl ∧ (zs.map K.size).sum = (l.map K.size).sum ∧ zs.length = l.length := by
  subst hk
  have hr := h.row
  rw [Nat.sub_self] at hr
  simp only [List.replicate_zero, List.append_nil] at hr
  refine ⟨h.fr.row hr h.len hm, ?_, ?_, h.len⟩
  · have := h.pl; rwa [List.take_length] at this
  · have := h.size; rwa [List.take_length] at this

theorem putC_cong {b : Nat} : ∀ (l : List (Nat × Value)) {w w' : World}, w.heap[b]? = w'.heap[b]? → (putC w b l).heap[b]? = (putC w' b l).heap[b]?
  | [], _, _, h => h
  | x :: l, w, w', h => putC_cong l (by
    simp only [World.setCell, Array.getElem?_modify, if_true, h])
theorem putC_app {b : Nat} : ∀ (l m : List (Nat × Value)) (w : World), putC (putC w b l) b m = putC w b (l ++ m)
  | [], _, _ => rfl
  | x :: l, m, w => putC_app l m _
theorem putC_cell {b o : Nat} : ∀ (l : List (Nat × Value)) (w : World), (∀ x ∈ l, x.1 ≠ o) → (putC w b l).cell? ⟨b, o, none⟩ = w.cell? ⟨b, o, none⟩
  | [], _, _ => rfl
  | x :: l, w, h => by
    rw [putC, putC_cell l _ (fun y hy => h y (List.mem_cons_of_mem _ hy))]
    exact World.cell?_setCell_other _ _ _ _ (by have := h x (List.mem_cons_self ..); intro e; injection e with _ e; exact this e)
theorem putC_frz {b : Nat} {l : List (Nat × Value)} {w : World} {cur : Array Value} {E : TypeId} (h : w.heap[b]? = some (.cells cur E (0, 0))) (o : Nat) : (putC w b l).frozen? ⟨b, o, none⟩ = false := heap_free (putC_heap l w cur h) o

/-- a row in the marking: the first j of ys are marked -/
structure MarkSt {α β : Type} (K : Knd α β) (E : Nat) (l : List α) (p : Option Addr) (c : Nat) (k0 : Int) (w wr : World) (j : Nat) (ys : List α) : Prop where
  len : ys.length = l.length
  foot : ys.map K.foot = l.map K.foot
  cnt : ys.map K.cnt = l.map K.cnt
  mkd : mkdL K (ys.take j) k0
  row : l = [] ∨ ∃ b, p = some ⟨b, 0, none⟩ ∧ ORow E K.sz wr b c l.length (ys.flatMap K.cells)
  ow : ∀ x ∈ ys, K.ow wr x
  kept : Kept (fun b => b ∈ (gLst E K).foot ⟨p, c, l⟩) w wr
theorem MarkSt.start {α β : Type} {K : Knd α β} {E : Nat} {l : List α} {p : Option Addr} {c : Nat} {w : World} (h : (gLst E K).ow w ⟨p, c, l⟩) (k0 : Int) : MarkSt K E l p c k0 w w 0 l := ⟨rfl, rfl, rfl, by simp [mkdL], h.2.2.1, h.2.2.2, Kept.refl _ _⟩
theorem foot_split {α : Type} {f : α → List Nat} {l : List α} {B : List Nat} (hn : (B ++ l.flatMap f).Nodup) {i j : Nat} (hi : i < l.length) (hj : j < l.length) : (∀ b ∈ B, b ∉ f l[i]) ∧ (i ≠ j → ∀ b ∈ f l[i], b ∉ f l[j]) ∧ (f l[i]).Nodup := by
  obtain ⟨h1, h2, h3⟩ := List.nodup_append.1 hn
  have hm : ∀ i (hi : i < l.length), ∀ b ∈ f l[i], b ∈ l.flatMap f := fun i hi b hb => List.mem_flatMap.2 ⟨l[i], List.getElem_mem hi, hb⟩
  have hp := List.pairwise_flatMap.1 h2
  refine ⟨fun b hb hb' => h3 b hb b (hm i hi b hb') rfl, fun hne b hb hb' => ?_, hp.1 _ (List.getElem_mem hi)⟩
  have hpw := List.pairwise_iff_getElem.1 hp.2
  rcases Nat.lt_or_gt_of_ne hne with h | h
  · exact (hpw i j hi hj h) b hb b hb' rfl
  · exact (hpw j i hj hi h) b hb' b hb rfl
theorem MarkSt.step {α β : Type} {K : Knd α β} (hK : KLaw K) {E : Nat} {l ys : List α} {b c : Nat} {k0 : Int} {w wr W : World} {j : Nat} (h : MarkSt K E l (some ⟨b, 0, none⟩) c k0 w wr j ys) (hn : ((gLst E K).foot ⟨some ⟨b, 0, none⟩, c, l⟩).Nodup) (hj : j < l.length) (hj' : j < ys.length) (q : α) (vs : List (Nat × Value))
    (hf : K.foot q = K.foot ys[j]) (hc : K.cnt q = K.cnt ys[j]) (hm : K.mkd q (k0 + cntL K (l.take j))) (ho : K.ow W q) (hb : W.heap[b]? = (putC wr b vs).heap[b]?) (hk : Kept (fun x => x = b ∨ x ∈ K.foot ys[j]) wr W)
    (h1 : ∀ x ∈ vs, j * K.sz ≤ x.1 ∧ x.1 < j * K.sz + K.sz ∧ (K.cells q)[x.1 - j * K.sz]? = some x.2) (h2 : ∀ i, i < K.sz → (∃ x ∈ vs, x.1 = j * K.sz + i) ∨ (K.cells q)[i]? = (K.cells ys[j])[i]?) :
    MarkSt K E l (some ⟨b, 0, none⟩) c k0 w W (j + 1) (ys.set j q) := by
  have hl0 : l ≠ [] := by intro e; subst e; simp at hj
  have hB : blk (⟨some ⟨b, 0, none⟩, c, l⟩ : Lst α) = [b] := blk_of hl0 rfl
  have hn' : ([b] ++ l.flatMap K.foot).Nodup := by rw [← hB]; exact hn
  have fe : ∀ i (hi : i < ys.length) (hi' : i < l.length), K.foot ys[i] = K.foot l[i] := fun i hi hi' => by
    have e : (ys.map K.foot)[i]? = (l.map K.foot)[i]? := by rw [h.foot]
    simpa [hi, hi'] using e
  have ce : ∀ i (hi : i < ys.length) (hi' : i < l.length), K.cnt ys[i] = K.cnt l[i] := fun i hi hi' => by
    have e : (ys.map K.cnt)[i]? = (l.map K.cnt)[i]? := by rw [h.cnt]
    simpa [hi, hi'] using e
  have cl : cntL K (ys.take j) = cntL K (l.take j) := by
    unfold cntL
    rw [List.map_take, List.map_take, h.cnt]
  refine ⟨by simp [h.len], ?_, ?_, ?_, ?_, ?_, ?_⟩
  · rw [List.map_set, hf, fe j hj' hj, h.foot]
    exact List.ext_getElem? (fun i => by
      by_cases hi : i = j
      · subst hi; simp [hj]
      · rw [List.getElem?_set_ne (fun e => hi e.symm)])
  · rw [List.map_set, hc, ce j hj' hj, h.cnt]
    exact List.ext_getElem? (fun i => by
      by_cases hi : i = j
      · subst hi; simp [hj]
      · rw [List.getElem?_set_ne (fun e => hi e.symm)])
  · have e : (ys.set j q).take (j + 1) = ys.take j ++ [q] := by
      rw [List.take_succ_eq_append_getElem (by simpa using hj'), List.getElem_set_self, List.take_set_of_le (Nat.le_refl _)]
    rw [e]
    exact (mkdL_app K _ _ _).2 ⟨h.mkd, by rw [cl]; exact ⟨hm, trivial⟩⟩
  · rcases h.row with h0 | ⟨b', e, hO⟩
    · exact absurd h0 hl0
    · cases e
      exact .inr ⟨b, rfl, (hO.putRow hK.len hj' q vs h1 h2).of hb⟩
  · intro x hx
    obtain ⟨i, hi, rfl⟩ := List.getElem_of_mem hx
    have hi0 : i < ys.length := by simpa using hi
    by_cases e : j = i
    · subst e; rw [List.getElem_set_self]; exact ho
    · rw [List.getElem_set_ne e]
      have hil : i < l.length := by rw [← h.len]; exact hi0
      obtain ⟨s1, s2, _⟩ := foot_split hn' hil hj
      refine hK.ow_of (h.ow _ (List.getElem_mem hi0)) (fun x hx => ?_)
      have hxl := hK.ow_lt (h.ow _ (List.getElem_mem hi0)) x hx
      rw [fe i hi0 hil] at hx
      refine hk.block x hxl (fun hd => ?_)
      rcases hd with rfl | hd
      · exact s1 x (by simp) hx
      · rw [fe j hj' hj] at hd
        exact s2 (fun e' => e e'.symm) x hx hd
  · refine h.kept.trans (hk.mono (fun x hx => ?_))
    show x ∈ blk _ ++ l.flatMap K.foot
    rw [hB]
    rcases hx with rfl | hx
    · simp
    · rw [fe j hj' hj] at hx
      exact List.mem_append.2 (.inr (List.mem_flatMap.2 ⟨l[j], List.getElem_mem hj, hx⟩))
theorem MarkSt.done {α β : Type} {K : Knd α β} (hK : KLaw K) {E : Nat} {l ys : List α} {p : Option Addr} {c : Nat} {k0 : Int} {w wr : World} {j : Nat} (h : MarkSt K E l p c k0 w wr j ys) (hj : j = l.length) (h1 : l.length ≤ c) (h2 : c ≤ 9223372036854775807) :
    ∃ a', (gLst E K).val a' = (gLst E K).val ⟨p, c, l⟩ ∧ (gLst E K).cells a' = (gLst E K).cells ⟨p, c, l⟩ ∧ (gLst E K).foot a' = (gLst E K).foot ⟨p, c, l⟩ ∧ (gLst E K).vcnt a' = (gLst E K).vcnt ⟨p, c, l⟩ ∧ (gLst E K).ow wr a' ∧ (gLst E K).vmkd a' k0 := by
  refine ⟨⟨p, c, ys⟩, ?_, ?_, ?_, ?_, ⟨by simp only [h.len]; exact h1, h2, ?_, h.ow⟩, ?_⟩
  · show Value.slice p ys.length c = _; rw [h.len]; rfl
  · show [Value.slice p ys.length c] = _; rw [h.len]; rfl
  · show blk _ ++ ys.flatMap K.foot = blk _ ++ l.flatMap K.foot
    rw [blk_same (a := ⟨p, c, ys⟩) (b := ⟨p, c, l⟩) rfl h.len, List.flatMap_def, List.flatMap_def, h.foot]
  · show cntL K ys = cntL K l
    unfold cntL
    rw [h.cnt]
  · show ys = [] ∨ _
    rcases h.row with h0 | ⟨b, e, hO⟩
    · left; have := h.len; rw [h0] at this; exact List.length_eq_zero_iff.1 this
    · exact .inr ⟨b, e, by rw [h.len]; exact hO⟩
  · show mkdL K ys k0
    have := h.mkd
    rwa [hj, ← h.len, List.take_length] at this

/-- the next element that is to be marked -/
theorem MarkSt.elem {α β : Type} {K : Knd α β} {E : Nat} {l ys : List α} {p : Option Addr} {c : Nat} {k0 : Int} {w wr : World} {j : Nat} (h : MarkSt K E l p c k0 w wr j ys) (hn : ((gLst E K).foot ⟨p, c, l⟩).Nodup) (hj : j < l.length) :
    ∃ (hy : j < ys.length) (b : Nat), p = some ⟨b, 0, none⟩ ∧ ORow E K.sz wr b c l.length (ys.flatMap K.cells) ∧ K.ow wr ys[j] ∧ (K.foot ys[j]).Nodup ∧ (∀ x ∈ K.foot ys[j], x ≠ b) ∧ K.cnt ys[j] = K.cnt l[j] := by
  have hl0 : l ≠ [] := by intro e; subst e; simp at hj
  have hy : j < ys.length := by rw [h.len]; exact hj
  rcases h.row with h0 | ⟨b, e, hO⟩
  · exact absurd h0 hl0
  have hB : blk (⟨p, c, l⟩ : Lst α) = [b] := blk_of hl0 e
  have hn' : ([b] ++ l.flatMap K.foot).Nodup := by rw [← hB]; exact hn
  have fe : K.foot ys[j] = K.foot l[j] := by
    have e : (ys.map K.foot)[j]? = (l.map K.foot)[j]? := by rw [h.foot]
    simpa [hy, hj] using e
  have ce : K.cnt ys[j] = K.cnt l[j] := by
    have e : (ys.map K.cnt)[j]? = (l.map K.cnt)[j]? := by rw [h.cnt]
    simpa [hy, hj] using e
  obtain ⟨s1, _, s3⟩ := foot_split hn' hj hj
  refine ⟨hy, b, e, hO, h.ow _ (List.getElem_mem hy), by rw [fe]; exact s3, fun x hx e' => ?_, ce⟩
  rw [fe] at hx
  exact s1 b (by simp) (e' ▸ hx)

end Go.Proofs.Ytlifkfemdknndaa
