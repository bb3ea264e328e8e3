/-
  Rows of what is asked, in the making.
-/
import Derived.Test.YtpbkpfdbdfnlbaaRunIM
import Derived.Test.YtpbkpfdbdfnlbaaDrawReq
import Derived.Test.YtpbkpfdbdfnlbaaDrawAtm
import Derived.Test.YtpbkpfdbdfnlbaaCrOkM
import Derived.Test.YtpbkpfdbdfnlbaaMapD
namespace Go.Proofs.Ytpbkpfdbdfnlbaa
open Go.RowKit
set_option linter.unusedSimpArgs false
set_option linter.unusedVariables false

def Rq.cells (q : Rq) : List Value := [.int .i64 q.r.id, .int .i64 q.r.kind, .int .i64 q.r.addr, .int .i64 q.r.many, .bool q.r.wrap, .slice q.pd q.r.data.length q.cd, .slice q.pl q.r.lanes.length q.cl]
def rqCells (l : List Rq) : List Value := l.flatMap Rq.cells
theorem rqCells_len : ∀ l : List Rq, (rqCells l).length = l.length * 7
  | [] => rfl
  | y :: l => by
    have := rqCells_len l
    simp only [rqCells, List.flatMap_cons, List.length_append, List.length_cons] at this ⊢
    rw [this]; simp [Rq.cells]; omega
theorem rqCells_snoc (l : List Rq) (y : Rq) : rqCells (l ++ [y]) = rqCells l ++ y.cells := by simp [rqCells]
theorem rqCells_at : ∀ (l : List Rq) (k : Nat) (h : k < l.length) (i : Nat), i < 7 → (rqCells l)[k * 7 + i]? = l[k].cells[i]?
  | y :: l, 0, h, i, hi => by
    have hc : rqCells (y :: l) = y.cells ++ rqCells l := by simp [rqCells]
    have hl : y.cells.length = 7 := rfl
    rw [hc, List.getElem?_append_left (by omega)]; simp
  | y :: l, k + 1, h, i, hi => by
    have ih := rqCells_at l k (by simpa using h) i hi
    have hc : rqCells (y :: l) = y.cells ++ rqCells l := by simp [rqCells]
    have hl : y.cells.length = 7 := rfl
    rw [hc, List.getElem?_append_right (by omega), hl, show (k + 1) * 7 + i - 7 = k * 7 + i by omega, ih]; simp

theorem Try.infoReq : (Try.prog.info? 40).map (fun i => (i.zero, i.size, i.bytes)) = some (some (.agg #[.int .i64 0, .int .i64 0, .int .i64 0, .int .i64 0, .bool false, .slice none 0 0, .slice none 0 0]), 7, 88) := by kernel_rfl

theorem IntsAt.of' {w w' : World} {a : Option Addr} {l : List Int} (h : IntsAt w a l) (hs : w.heap.size ≤ w'.heap.size) (hb : l ≠ [] → ∀ b off, a = some ⟨b, off, none⟩ → b < w.heap.size → w'.heap[b]? = w.heap[b]?) : IntsAt w' a l := by
  by_cases h0 : l = []
  · exact .inl h0
  · exact h.of hs (hb h0)
theorem ReqAt.of' {w w' : World} {r : Req} {pd pl : Option Addr} {cd cl : Nat} (h : ReqAt w r pd cd pl cl) (hs : w.heap.size ≤ w'.heap.size) (hd : r.data ≠ [] → ∀ b off, pd = some ⟨b, off, none⟩ → b < w.heap.size → w'.heap[b]? = w.heap[b]?)
    (hl : r.lanes ≠ [] → ∀ b off, pl = some ⟨b, off, none⟩ → b < w.heap.size → w'.heap[b]? = w.heap[b]?) : ReqAt w' r pd cd pl cl :=
  ⟨h.data.of' hs hd, h.lanes.of' hs hl, h.cd1, h.cd2, h.cl1, h.cl2⟩

/-- a row of what is asked, in the making, in a block of its own; what it speaks of lies elsewhere, from M on -/
structure QMk (M : Nat) (w : World) (g cap : Nat) (l : List Rq) : Prop where
  row : ORow 40 7 w g cap l.length (rqCells l)
  cap1 : cap ≤ maxLen
  ats : ∀ q ∈ l, ReqAt w q.r q.pd q.cd q.pl q.cl
  pdM : ∀ q ∈ l, q.r.data ≠ [] → ∀ b off, q.pd = some ⟨b, off, none⟩ → M ≤ b ∧ b ≠ g
  plM : ∀ q ∈ l, q.r.lanes ≠ [] → ∀ b off, q.pl = some ⟨b, off, none⟩ → M ≤ b ∧ b ≠ g
  gM : M ≤ g
theorem QMk.of {M : Nat} {w w' : World} {g cap : Nat} {l : List Rq} (h : QMk M w g cap l) (hs : w.heap.size ≤ w'.heap.size) (hb : ∀ k, k < w.heap.size → M ≤ k → w'.heap[k]? = w.heap[k]?) : QMk M w' g cap l :=
  ⟨h.row.of (hb g h.row.lt h.gM), h.cap1, fun q hq => (h.ats q hq).of' hs (fun h0 b off e hlt => hb b hlt (h.pdM q hq h0 b off e).1) (fun h0 b off e hlt => hb b hlt (h.plM q hq h0 b off e).1), h.pdM, h.plM, h.gM⟩
theorem QMk.len {M : Nat} {w : World} {g cap : Nat} {l : List Rq} (h : QMk M w g cap l) : l.length ≤ cap := by obtain ⟨_, _, _, h, _⟩ := h.row; exact h
theorem QMk.new {M : Nat} {w : World} (hM : M ≤ w.heap.size) : QMk M (w.alloc (.cells #[] 40)) w.heap.size 0 [] :=
  ⟨⟨#[], nw_at _ rfl, rfl, Nat.le_refl _, rfl, rfl⟩, by unfold maxLen; omega, fun _ h => by simp at h, fun _ h => by simp at h, fun _ h => by simp at h, hM⟩
/-- one more is appended -/
theorem QMk.app {M : Nat} {w w' : World} {g cap g' cap' : Nat} {l : List Rq} {q : Rq} (h : QMk M w g cap l) (hq : ReqAt w q.r q.pd q.cd q.pl q.cl) (hd : q.r.data ≠ [] → ∀ b off, q.pd = some ⟨b, off, none⟩ → M ≤ b ∧ b ≠ g) (hl : q.r.lanes ≠ [] → ∀ b off, q.pl = some ⟨b, off, none⟩ → M ≤ b ∧ b ≠ g)
    (hr : ORow 40 7 w' g' cap' (l.length + 1) (rqCells (l ++ [q]))) (hc : cap' ≤ maxLen) (hg : g' = g ∨ w.heap.size ≤ g') (hG : Grew w w' g) : QMk M w' g' cap' (l ++ [q]) := by
  have hgl := h.row.lt
  have hgM := h.gM
  have lt : ∀ {p : Option Addr} {xs : List Int}, IntsAt w p xs → xs ≠ [] → ∀ b off, p = some ⟨b, off, none⟩ → b < w.heap.size := fun hi h0 b off e => by
    rcases hi with hi | ⟨b', off', e', hlt, _⟩
    · exact absurd hi h0
    · rw [e] at e'; cases e'; exact hlt
  have at' : ∀ y : Rq, ReqAt w y.r y.pd y.cd y.pl y.cl → (y.r.data ≠ [] → ∀ b off, y.pd = some ⟨b, off, none⟩ → M ≤ b ∧ b ≠ g) → (y.r.lanes ≠ [] → ∀ b off, y.pl = some ⟨b, off, none⟩ → M ≤ b ∧ b ≠ g) →
      ReqAt w' y.r y.pd y.cd y.pl y.cl ∧ (y.r.data ≠ [] → ∀ b off, y.pd = some ⟨b, off, none⟩ → M ≤ b ∧ b ≠ g') ∧ (y.r.lanes ≠ [] → ∀ b off, y.pl = some ⟨b, off, none⟩ → M ≤ b ∧ b ≠ g') := fun y hy h1 h2 =>
    ⟨hy.of' hG.size (fun h0 b off e hlt => hG.block b hlt (h1 h0 b off e).2) (fun h0 b off e hlt => hG.block b hlt (h2 h0 b off e).2),
     fun h0 b off e => ⟨(h1 h0 b off e).1, by have := lt hy.data h0 b off e; have := (h1 h0 b off e).2; omega⟩,
     fun h0 b off e => ⟨(h2 h0 b off e).1, by have := lt hy.lanes h0 b off e; have := (h2 h0 b off e).2; omega⟩⟩
  have all : ∀ y ∈ l ++ [q], ReqAt w' y.r y.pd y.cd y.pl y.cl ∧ (y.r.data ≠ [] → ∀ b off, y.pd = some ⟨b, off, none⟩ → M ≤ b ∧ b ≠ g') ∧ (y.r.lanes ≠ [] → ∀ b off, y.pl = some ⟨b, off, none⟩ → M ≤ b ∧ b ≠ g') := fun y hy => by
    rcases List.mem_append.1 hy with hy | hy
    · exact at' y (h.ats y hy) (h.pdM y hy) (h.plM y hy)
    · have : y = q := by simpa using hy
      subst this; exact at' y hq hd hl
  exact ⟨by simpa using hr, hc, fun y hy => (all y hy).1, fun y hy => (all y hy).2.1, fun y hy => (all y hy).2.2, by omega⟩
theorem QMk.rqs {M : Nat} {w : World} {g cap : Nat} {l : List Rq} (h : QMk M w g cap l) : RqsAt w (some ⟨g, 0, none⟩) l := by
  refine ⟨.inr ⟨g, 0, rfl, h.row.lt, fun k hk => ?_⟩, h.ats⟩
  have at' : ∀ i u, i < 7 → l[k].cells[i]? = some u → w.cell? ⟨g, 0 + k * 7 + i, none⟩ = some u := fun i u hi hu => by
    rw [Nat.zero_add]; exact h.row.get _ u ((rqCells_at l k hk i hi).trans hu)
  exact ⟨at' 0 _ (by omega) rfl, at' 1 _ (by omega) rfl, at' 2 _ (by omega) rfl, at' 3 _ (by omega) rfl, at' 4 _ (by omega) rfl, at' 5 _ (by omega) rfl, at' 6 _ (by omega) rfl⟩

theorem wpList_appQ {ops : Array Oper} {rest : List Oper} {o : Oper} {a : Act} {Q : Exit → Act → World → Prop} {w : World} {s x g cap n b c : Nat} (l : List Rq) (q : Rq) (hg : o.guard = none)
    (ho : o.op = .call { callee := .builtin .append, args := #[.tmp s, .tmp x], argTypes := #[29, 29] })
    (hs : a.eval (.tmp s) = .slice (some ⟨g, 0, none⟩) n cap) (hn : n = l.length) (hW : ORow 40 7 w g cap n (rqCells l)) (hcap : cap ≤ maxLen) (hx : a.eval (.tmp x) = .slice (some ⟨b, 0, none⟩) 1 c)
    (hY : w.heap[b]? = some (.cells q.cells.toArray 40 (0, 0))) (hlen : n ≤ 100000)
    (h : ∀ g' cap' w', ORow 40 7 w' g' cap' (n + 1) (rqCells (l ++ [q])) → cap' ≤ maxLen → (g' = g ∨ w.heap.size ≤ g') → Grew w w' g → wpList Try.prog ops Q rest (a.put o.dst (.slice (some ⟨g', 0, none⟩) (n + 1) cap')) w') : wpList Try.prog ops Q (o :: rest) a w := by
  obtain ⟨i0, hi, hz0, hz1, hz2⟩ := info_parts Try.infoReq
  refine wpList_plain hg (fun K hK => ?_)
  obtain ⟨g', cap', w', e, hO, hc', hG, hg', _⟩ := run_append_rows (P := Try.prog) (w := w) (ρ := a.eval) (o := o) (xs := rqCells l) (ys := q.cells) 29 40 i0 _ 7 88 Try.underlying29 hi hz0 hz1 hz2 rfl (by omega) ho hs hW hx rfl (fun j u hj => by
      have e1 : ((⟨b, 0, none⟩ : Addr).add j) = ⟨b, j, none⟩ := by unfold Addr.add; split <;> simp_all
      rw [e1, heap_cell hY]
      have e2 : (q.cells.toArray)[j]? = some u := by simpa using hj
      exact e2) (by simp [Rq.cells, Value.oneCell']) hcap (by unfold maxLen; omega) (by omega)
  rw [← rqCells_snoc] at hO
  unfold Oper.wp
  rw [e]
  exact hK _ _ (h g' cap' w' hO hc' hg' hG)

/-- all blocks below M but B lie as they lay -/
structure KeepM (M B : Nat) (w w' : World) : Prop where
  os : w'.os = w.os
  tape : w'.tape = w.tape
  output : w'.output = w.output
  size : w.heap.size ≤ w'.heap.size
  block : ∀ k, k < M → k ≠ B → w'.heap[k]? = w.heap[k]?
theorem KeepM.refl (M B : Nat) (w : World) : KeepM M B w w := ⟨rfl, rfl, rfl, Nat.le_refl _, fun _ _ _ => rfl⟩
theorem KeepM.trans {M B : Nat} {a b c : World} (h : KeepM M B a b) (k : KeepM M B b c) : KeepM M B a c :=
  ⟨k.os.trans h.os, k.tape.trans h.tape, k.output.trans h.output, Nat.le_trans h.size k.size, fun i hi hn => (k.block i hi hn).trans (h.block i hi hn)⟩
theorem KeepM.keep {M B : Nat} {a b : World} (h : Keep B a b) (hM : M ≤ a.heap.size) : KeepM M B a b := ⟨h.os, h.tape, h.output, h.size, fun k hk hn => h.block k (by omega) hn⟩
theorem KeepM.grew {M B g : Nat} {a b : World} (h : Grew a b g) (hg : M ≤ g) (hM : M ≤ a.heap.size) : KeepM M B a b := ⟨h.os, h.tape, h.output, h.size, fun k hk hn => h.block k (by omega) (by omega)⟩
theorem KeepM.gr {M B : Nat} {a b : World} (h : Below a.heap.size a b) (hM : M ≤ a.heap.size) : KeepM M B a b := ⟨h.os, h.tape, h.output, h.size, fun k hk hn => h.block k (by omega)⟩

/-- a row in the making, the reader, and what lay before -/
structure QSt (B M : Nat) (w5 wr : World) (g cp : Nat) (l : List Rq) (p : Nat) : Prop where
  qm : QMk M wr g cp l
  rd : Rd wr B p
  km : KeepM M B w5 wr
  BM : B < M
  sz : M ≤ w5.heap.size
theorem QSt.keep {B M : Nat} {w5 wr w' : World} {g cp : Nat} {l : List Rq} {p p' : Nat} (h : QSt B M w5 wr g cp l p) (hK : Keep B wr w') (hr : Rd w' B p') : QSt B M w5 w' g cp l p' := by
  have hB := h.BM
  exact ⟨h.qm.of hK.size (fun k hk hM => hK.block k hk (by omega)), hr, h.km.trans (KeepM.keep hK (Nat.le_trans h.sz h.km.size)), h.BM, h.sz⟩
theorem QSt.app {B M : Nat} {w5 wr w6 w8 : World} {g cp : Nat} {l : List Rq} {p p' : Nat} (h : QSt B M w5 wr g cp l p) (hK : Keep B wr w6) (hr : Rd w6 B p') {q : Rq} (hq : ReqAt w6 q.r q.pd q.cd q.pl q.cl)
    (hd : ∀ b off, q.pd = some ⟨b, off, none⟩ → wr.heap.size ≤ b) (hl : ∀ b off, q.pl = some ⟨b, off, none⟩ → wr.heap.size ≤ b) {o : Obj} {g' cp' : Nat}
    (hrow : ORow 40 7 w8 g' cp' (l.length + 1) (rqCells (l ++ [q]))) (hc : cp' ≤ maxLen) (hg : g' = g ∨ (w6.alloc o).heap.size ≤ g') (hG : Grew (w6.alloc o) w8 g) : QSt B M w5 w8 g' cp' (l ++ [q]) p' := by
  have hB := h.BM
  have hgl := h.qm.row.lt
  have hgM := h.qm.gM
  have hsz := h.sz
  have hks := h.km.size
  have hs6 := hK.size
  have hn := below_nw w6 o
  have hs7 := hn.size
  have h6 := h.keep hK hr
  have hmk : QMk M (w6.alloc o) g cp l := h6.qm.of hn.size (fun k hk _ => hn.block k hk)
  refine ⟨hmk.app (hq.below hn) (fun _ b off e => ?_) (fun _ b off e => ?_) hrow hc hg hG, ?_, ?_, h.BM, h.sz⟩
  · have := hd b off e; omega
  · have := hl b off e; omega
  · refine (hr.alloc o).of (fun k hk => hG.block k ?_ ?_) hG.size <;> omega
  · exact (h6.km.trans (KeepM.gr hn (by omega))).trans (KeepM.grew hG (by omega) (by omega))

end Go.Proofs.Ytpbkpfdbdfnlbaa
