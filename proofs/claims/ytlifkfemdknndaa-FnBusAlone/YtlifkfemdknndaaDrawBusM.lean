/-
  l20Bus of the model: whatever the code, a bus.
-/
import Derived.Test.YtlifkfemdknndaaKndGM
import Derived.Test.YtlifkfemdknndaaDrawMapZ
import Derived.Test.YtlifkfemdknndaaDrawReq
import Derived.Test.YtlifkfemdknndaaBusK
import Derived.Test.YtlifkfemdknndaaKBusCfgM
import Derived.Test.YtlifkfemdknndaaSpcDM
/-
  What is read, by its blocks; rows of what is asked, and a bus, in the drawing.
-/
namespace Go.Proofs.Ytlifkfemdknndaa
open Go.RowKit
set_option linter.unusedSimpArgs false
set_option linter.unusedVariables false

/-- what is read hangs on the blocks of its rows alone -/
structure RdOf {α β : Type} (K : Knd α β) : Prop where
  of : ∀ {w w' : World} {a : α}, K.rd w a → w.heap.size ≤ w'.heap.size → (∀ b ∈ K.foot a, w'.heap[b]? = w.heap[b]?) → K.rd w' a
  lt : ∀ {w : World} {a : α}, K.rd w a → ∀ b ∈ K.foot a, b < w.heap.size
theorem RdOf.int : RdOf gInt := ⟨fun _ _ _ => trivial, fun _ b h => by simp [gInt] at h⟩
theorem RdOf.bool : RdOf gBool := ⟨fun _ _ _ => trivial, fun _ b h => by simp [gBool] at h⟩
theorem RdOf.pair {α β γ δ : Type} {K : Knd α β} {L : Knd γ δ} (hK : RdOf K) (hL : RdOf L) : RdOf (gPair K L) := ⟨fun h hs hb => ⟨hK.of h.1 hs (fun b hm => hb b (List.mem_append.2 (.inl hm))), hL.of h.2 hs (fun b hm => hb b (List.mem_append.2 (.inr hm)))⟩, fun h b hm => by
  rcases List.mem_append.1 hm with hm | hm
  · exact hK.lt h.1 b hm
  · exact hL.lt h.2 b hm⟩
theorem RdOf.recd {α β : Type} {K : Knd α β} (h : RdOf K) : RdOf (gRec K) := ⟨h.of, h.lt⟩
theorem blk_ofx {α : Type} {a : Lst α} {x : Addr} (h : a.l ≠ []) (hp : a.p = some x) : blk a = [x.block] := by
  obtain ⟨p, c, l⟩ := a
  cases l with
  | nil => exact absurd rfl h
  | cons y l => simp only at hp; subst hp; rfl
theorem RdOf.lst {α β : Type} {K : Knd α β} {E : Nat} (hK : RdOf K) : RdOf (gLst E K) := ⟨by
  rintro w w' a ⟨h1, h2, h3, h4⟩ hs hb
  refine ⟨h1, h2, ?_, fun x hx => hK.of (h4 x hx) hs (fun b hm => hb b (List.mem_append.2 (.inr (List.mem_flatMap.2 ⟨x, hx, hm⟩))))⟩
  by_cases h0 : a.l = []
  · exact .inl h0
  rcases h3 with h3 | ⟨b, off, e, hlt, hc⟩
  · exact .inl h3
  · refine .inr ⟨b, off, e, Nat.lt_of_lt_of_le hlt hs, fun k hk j v hv => ?_⟩
    have hbb : w'.heap[b]? = w.heap[b]? := hb b (List.mem_append.2 (.inl (by rw [blk_ofx h0 e]; simp)))
    exact (World.cell?_of_block (w := w) (a := ⟨b, off + k * K.sz + j, none⟩) hbb).trans (hc k hk j v hv), by
  rintro w a ⟨h1, h2, h3, h4⟩ b hm
  rcases List.mem_append.1 hm with hm | hm
  · by_cases h0 : a.l = []
    · rw [blk_nil h0] at hm; simp at hm
    rcases h3 with h3 | ⟨b', off, e, hlt, hc⟩
    · exact absurd h3 h0
    · rw [blk_ofx h0 e] at hm
      simp at hm; subst hm; exact hlt
  · obtain ⟨x, hx, hm⟩ := List.mem_flatMap.1 hm
    exact hK.lt (h4 x hx) b hm⟩
theorem rdI : RdOf yI := RdOf.lst RdOf.int
theorem rdRng : RdOf yMapRange := RdOf.recd (RdOf.pair RdOf.int (RdOf.pair RdOf.int (RdOf.pair RdOf.int RdOf.bool)))
theorem rdRngs : RdOf yMapRangeS := RdOf.lst rdRng
theorem rdReq : RdOf yReqReq := RdOf.recd (RdOf.pair RdOf.int (RdOf.pair RdOf.int (RdOf.pair RdOf.int (RdOf.pair RdOf.int (RdOf.pair RdOf.bool (RdOf.pair rdI rdI))))))
theorem rdReqs : RdOf yReqReqS := RdOf.lst rdReq
theorem rdReqss : RdOf yReqReqSS := RdOf.lst rdReqs
theorem rdBus : RdOf yBusCfg := RdOf.recd (RdOf.pair rdRngs (RdOf.pair rdI rdReqss))

abbrev QT' := Int × Int × Int × Int × Bool × Lst Int × Lst Int
theorem req_foot (q : QT') : yReqReq.foot q = yI.foot q.2.2.2.2.2.1 ++ yI.foot q.2.2.2.2.2.2 := rfl
theorem req_plain (q : QT') : reqOf (yReqReq.pl q) = ⟨q.1, q.2.1, q.2.2.1, q.2.2.2.1, q.2.2.2.2.1, q.2.2.2.2.2.1.l, q.2.2.2.2.2.2.l⟩ := by
  have e : yReqReq.pl q = (q.1, q.2.1, q.2.2.1, q.2.2.2.1, q.2.2.2.2.1, yI.pl q.2.2.2.2.2.1, yI.pl q.2.2.2.2.2.2) := rfl
  rw [e, yI_pl, yI_pl]; rfl
/-- what is asked, as it was drawn -/
def reqK (r : Req) (pd : Option Addr) (cd : Nat) (pl : Option Addr) (cl : Nat) : QT' := (r.id, r.kind, r.addr, r.many, r.wrap, ⟨pd, cd, r.data⟩, ⟨pl, cl, r.lanes⟩)
theorem reqK_rd {w : World} {r : Req} {pd pl : Option Addr} {cd cl : Nat} (h : ReqAt w r pd cd pl cl) : yReqReq.rd w (reqK r pd cd pl cl) :=
  ⟨trivial, trivial, trivial, trivial, trivial, yI_rd.2 ⟨h.cd1, h.cd2, h.data⟩, yI_rd.2 ⟨h.cl1, h.cl2, h.lanes⟩⟩
theorem reqK_foot {S : Nat} {w : World} {r : Req} {pd pl : Option Addr} {cd cl : Nat} (h : ReqAt w r pd cd pl cl) (hd : ∀ b off, pd = some ⟨b, off, none⟩ → S ≤ b) (hl : ∀ b off, pl = some ⟨b, off, none⟩ → S ≤ b) : ∀ b ∈ yReqReq.foot (reqK r pd cd pl cl), S ≤ b ∧ b < w.heap.size := by
  intro b hb
  refine ⟨?_, rdReq.lt (reqK_rd h) b hb⟩
  rw [req_foot] at hb
  rcases List.mem_append.1 hb with hb | hb
  · rw [yI_foot] at hb
    obtain ⟨h0, x, e, e'⟩ := blk_mem hb
    rcases h.data with h1 | ⟨b1, off, e1, _⟩
    · exact absurd h1 h0
    · have e2 : pd = some x := e
      rw [e1] at e2; cases e2; simp only at e'; subst e'; exact hd _ _ e1
  · rw [yI_foot] at hb
    obtain ⟨h0, x, e, e'⟩ := blk_mem hb
    rcases h.lanes with h1 | ⟨b1, off, e1, _⟩
    · exact absurd h1 h0
    · have e2 : pl = some x := e
      rw [e1] at e2; cases e2; simp only at e'; subst e'; exact hl _ _ e1

/-- all blocks below M but B lie as they lay -/
structure KM (M B : Nat) (w w' : World) : Prop where
  os : w'.os = w.os
  tape : w'.tape = w.tape
  output : w'.output = w.output
  size : w.heap.size ≤ w'.heap.size
  block : ∀ k, k < M → k ≠ B → w'.heap[k]? = w.heap[k]?
theorem KM.refl (M B : Nat) (w : World) : KM M B w w := ⟨rfl, rfl, rfl, Nat.le_refl _, fun _ _ _ => rfl⟩
theorem KM.trans {M B : Nat} {a b c : World} (h : KM M B a b) (k : KM M B b c) : KM M B a c :=
  ⟨k.os.trans h.os, k.tape.trans h.tape, k.output.trans h.output, Nat.le_trans h.size k.size, fun i hi hn => (k.block i hi hn).trans (h.block i hi hn)⟩
theorem KM.keep {M B : Nat} {a b : World} (h : Keep B a b) (hM : M ≤ a.heap.size) : KM M B a b := ⟨h.os, h.tape, h.output, h.size, fun k hk hn => h.block k (by omega) hn⟩
theorem KM.kept {M B : Nat} {a b : World} {p : Option Addr} (h : Kept (fun k => p = some ⟨k, 0, none⟩) a b) (hM : M ≤ a.heap.size) (hp : ∀ g, p = some ⟨g, 0, none⟩ → M ≤ g) : KM M B a b := ⟨h.os, h.tape, h.output, h.size, fun k hk hn => h.block k (by omega) (fun e => by have := hp k e; omega)⟩

/-- a row of what is asked, in the drawing -/
structure QL (P : Req → Prop) (B M : Nat) (w5 wr : World) (g cp : Nat) (ys : List QT') (p : Nat) : Prop where
  row : ORow 40 7 wr g cp ys.length (ys.flatMap yReqReq.cells)
  cap : cp ≤ maxLen
  gM : M ≤ g
  rds : ∀ q ∈ ys, yReqReq.rd wr q ∧ (∀ b ∈ yReqReq.foot q, M ≤ b ∧ b ≠ g) ∧ P (reqOf (yReqReq.pl q))
  rd : Rd wr B p
  km : KM M B w5 wr
  BM : B < M
  sz : M ≤ w5.heap.size
theorem QL.keep {P : Req → Prop} {B M : Nat} {w5 wr W : World} {g cp : Nat} {ys : List QT'} {p p' : Nat} (h : QL P B M w5 wr g cp ys p) (hK : Keep B wr W) (hr : Rd W B p') : QL P B M w5 W g cp ys p' := by
  have hB := h.BM
  have hg := h.gM
  refine ⟨h.row.of (hK.block g h.row.lt (by omega)), h.cap, h.gM, fun q hq => ?_, hr, h.km.trans (KM.keep hK (Nat.le_trans h.sz h.km.size)), h.BM, h.sz⟩
  obtain ⟨h1, h2, h3⟩ := h.rds q hq
  exact ⟨rdReq.of h1 hK.size (fun b hb => hK.block b (rdReq.lt h1 b hb) (by have := (h2 b hb).1; omega)), h2, h3⟩
theorem QL.app {P : Req → Prop} {B M : Nat} {w5 W w8 : World} {g cp : Nat} {ys : List QT'} {p : Nat} (h : QL P B M w5 W g cp ys p) {q : QT'} (hq : yReqReq.rd W q) (hf : ∀ b ∈ yReqReq.foot q, M ≤ b ∧ b ≠ g) (hP : P (reqOf (yReqReq.pl q))) {g' cp' : Nat}
    (hO : ORow 40 7 w8 g' cp' (ys.length + 1) ((ys ++ [q]).flatMap yReqReq.cells)) (hc : cp' ≤ maxLen) (hor : (some ⟨g, 0, none⟩ : Option Addr) = some ⟨g', 0, none⟩ ∨ W.heap.size ≤ g') (hk : Kept (fun b => (some ⟨g, 0, none⟩ : Option Addr) = some ⟨b, 0, none⟩) W w8) : QL P B M w5 w8 g' cp' (ys ++ [q]) p := by
  have hB := h.BM
  have hg := h.gM
  have hgl := h.row.lt
  have hsz := h.sz
  have hks := h.km.size
  have ne : ∀ b, b ≠ g → ¬ ((some ⟨g, 0, none⟩ : Option Addr) = some ⟨b, 0, none⟩) := fun b hb e => by cases e; exact hb rfl
  have one : ∀ x : QT', yReqReq.rd W x → (∀ b ∈ yReqReq.foot x, M ≤ b ∧ b ≠ g) → P (reqOf (yReqReq.pl x)) → yReqReq.rd w8 x ∧ (∀ b ∈ yReqReq.foot x, M ≤ b ∧ b ≠ g') ∧ P (reqOf (yReqReq.pl x)) := fun x h1 h2 h3 =>
    ⟨rdReq.of h1 hk.size (fun b hb => hk.block b (rdReq.lt h1 b hb) (ne b (h2 b hb).2)), fun b hb => ⟨(h2 b hb).1, by
      have hl := rdReq.lt h1 b hb
      have h4 := (h2 b hb).2
      rcases hor with e | e
      · cases e; exact h4
      · omega⟩, h3⟩
  refine ⟨by rw [show (ys ++ [q]).length = ys.length + 1 by simp]; exact hO, hc, ?_, fun x hx => ?_, ?_, h.km.trans (KM.kept hk (by omega) (fun x e => by cases e; exact hg)), h.BM, h.sz⟩
  · rcases hor with e | e
    · cases e; exact hg
    · omega
  · rcases List.mem_append.1 hx with hx | hx
    · obtain ⟨h1, h2, h3⟩ := h.rds x hx
      exact one x h1 h2 h3
    · have : x = q := by simpa using hx
      subst this
      exact one x hq hf hP
  · exact h.rd.of (fun k hk' => by
      have := h.rd.lt
      exact hk.block k (by omega) (ne k (by omega))) hk.size

/-- the blocks of a row of what is asked -/
def ff (x : Lst QT') : List Nat := x.p.toList.map (fun a => a.block) ++ x.l.flatMap yReqReq.foot
theorem foot_ff (x : Lst QT') : ∀ b ∈ yReqReqS.foot x, b ∈ ff x := by
  intro b hb
  rcases List.mem_append.1 hb with hb | hb
  · obtain ⟨_, a, e, e'⟩ := blk_mem hb
    refine List.mem_append.2 (.inl ?_)
    rw [e]
    simp [e']
  · exact List.mem_append.2 (.inr hb)
/-- a row of what is asked, of its own -/
structure ZOk (P : Req → Prop) (w : World) (x : Lst QT') : Prop where
  rd : yReqReqS.rd w x
  le : x.l.length ≤ 12
  ps : ∀ q ∈ x.l, P (reqOf (yReqReq.pl q))
  own : ∃ g, x.p = some ⟨g, 0, none⟩ ∧ ORow 40 7 w g x.c x.l.length (x.l.flatMap yReqReq.cells) ∧ x.c ≤ maxLen ∧ ∀ q ∈ x.l, g ∉ yReqReq.foot q
theorem ZOk.lt {P : Req → Prop} {w : World} {x : Lst QT'} (h : ZOk P w x) : ∀ b ∈ ff x, b < w.heap.size := by
  intro b hb
  rcases List.mem_append.1 hb with hb | hb
  · obtain ⟨g, e, hO, _⟩ := h.own
    rw [e] at hb
    simp at hb; subst hb; exact hO.lt
  · obtain ⟨q, hq, hm⟩ := List.mem_flatMap.1 hb
    exact rdReq.lt (h.rd.2.2.2 q hq) b hm
theorem ZOk.of {P : Req → Prop} {w w' : World} {x : Lst QT'} (h : ZOk P w x) (hs : w.heap.size ≤ w'.heap.size) (hb : ∀ b ∈ ff x, w'.heap[b]? = w.heap[b]?) : ZOk P w' x :=
  ⟨rdReqs.of h.rd hs (fun b hm => hb b (foot_ff x b hm)), h.le, h.ps, by
    obtain ⟨g, e, hO, hc, hn⟩ := h.own
    exact ⟨g, e, hO.of (hb g (List.mem_append.2 (.inl (by rw [e]; simp)))), hc, hn⟩⟩
/-- of a row in the drawing the first twelve -/
theorem QL.zok {P : Req → Prop} {B M : Nat} {w5 wr : World} {g cp : Nat} {ys : List QT'} {p n : Nat} (h : QL P B M w5 wr g cp ys p) (hn : n ≤ ys.length) (hn12 : n ≤ 12) : ZOk P wr ⟨some ⟨g, 0, none⟩, cp, ys.take n⟩ ∧ ∀ b ∈ ff ⟨some ⟨g, 0, none⟩, cp, ys.take n⟩, M ≤ b := by
  have hl : (ys.take n).length = n := by simp; omega
  have hO : ORow 40 7 wr g cp n ((ys.take n).flatMap yReqReq.cells) := h.row.pre hn (by rw [flat_len (s := 7) (fun a => yReqReq_law.len a), hl]) (fun i hi => by
    have e : ys.flatMap yReqReq.cells = (ys.take n).flatMap yReqReq.cells ++ (ys.drop n).flatMap yReqReq.cells := by rw [← List.flatMap_append, List.take_append_drop]
    rw [e, List.getElem?_append_left (by rw [flat_len (s := 7) (fun a => yReqReq_law.len a), hl]; exact hi)])
  have hcn : n ≤ cp := by obtain ⟨_, _, _, h, _⟩ := hO; exact h
  have hcm := h.cap
  unfold maxLen at hcm
  refine ⟨⟨⟨by simp only [hl]; exact hcn, hcm, ?_, fun x hx => (h.rds x (List.mem_of_mem_take hx)).1⟩, by simp only [hl]; exact hn12, fun q hq => (h.rds q (List.mem_of_mem_take hq)).2.2, g, rfl, by rw [show (⟨some ⟨g, 0, none⟩, cp, ys.take n⟩ : Lst QT').l.length = n from hl]; exact hO, h.cap, fun q hq hg => ((h.rds q (List.mem_of_mem_take hq)).2.1 g hg).2 rfl⟩, ?_⟩
  · refine .inr ⟨g, 0, rfl, h.row.lt, fun k hk j v hv => ?_⟩
    have hk' : k < (ys.take n).length := hk
    obtain ⟨cur, c1, c2, c3, c4, c5⟩ := hO.cur
    have hj : j < 7 := by have := (List.getElem?_eq_some_iff.1 hv).1; rw [yReqReq_law.len] at this; exact this
    rw [Nat.zero_add]
    show wr.cell? ⟨g, k * 7 + j, none⟩ = some v
    rw [heap_cell c1, c5 _ (by omega), flat_get (s := 7) (fun a => yReqReq_law.len a) _ k j hk' hj]
    exact hv
  · intro b hb
    rcases List.mem_append.1 hb with hb | hb
    · simp at hb; subst hb; exact h.gM
    · obtain ⟨q, hq, hm⟩ := List.mem_flatMap.1 hb
      exact ((h.rds q (List.mem_of_mem_take hq)).2.1 b hm).1

/-- a bus in the drawing: behind its ranges and how slow stores are; zs is what the first k ask -/
structure PgS (P : Req → Prop) (B R X M : Nat) (w0 : World) (m : Lst (Int × Int × Int × Bool)) (la : Lst Int) (wr : World) (k : Nat) (pp : Option Addr) (cp : Nat) (zs : List (Lst QT')) (p : Nat) : Prop where
  rd : Rd wr B p
  keep : Keep B w0 wr
  hX : wr.heap[X]? = some (.cells #[.slice m.p m.l.length m.c, .slice la.p la.l.length la.c, .slice pp zs.length cp] 27 (0, 0))
  hR : wr.heap[R]? = some (.cells #[.slice none 0 0, .slice none 0 0, .slice none 0 0] 27 (0, 0))
  rdm : yMapRangeS.rd wr m
  ftm : ∀ b ∈ yMapRangeS.foot m, w0.heap.size ≤ b ∧ b < M
  ol : yI.ow wr la
  ftl : ∀ b ∈ yI.foot la, w0.heap.size ≤ b ∧ b < M
  row : RowN 31 1 wr pp cp zs.length (zs.flatMap yReqReqS.cells)
  ppM : ∀ b, pp = some ⟨b, 0, none⟩ → M ≤ b ∧ b < wr.heap.size
  len : zs.length = k
  zok : ∀ x ∈ zs, ZOk P wr x
  ft : ∀ x ∈ zs, ∀ b ∈ ff x, M ≤ b ∧ pp ≠ some ⟨b, 0, none⟩
  sep : zs.Pairwise (fun x y => ∀ b ∈ ff x, b ∉ ff y)
  bnd : B < w0.heap.size ∧ w0.heap.size ≤ R ∧ R < M ∧ w0.heap.size ≤ X ∧ X < M ∧ X ≠ R ∧ M ≤ wr.heap.size
theorem PgS.move {P : Req → Prop} {B R X M : Nat} {w0 : World} {m : Lst (Int × Int × Int × Bool)} {la : Lst Int} {wr W : World} {k : Nat} {pp : Option Addr} {cp : Nat} {zs : List (Lst QT')} {p p' : Nat} (h : PgS P B R X M w0 m la wr k pp cp zs p) (hk : KM wr.heap.size B wr W) (hr : Rd W B p') : PgS P B R X M w0 m la W k pp cp zs p' := by
  obtain ⟨b1, b2, b3, b4, b5, b6, b7⟩ := h.bnd
  have bl : ∀ b, b < wr.heap.size → b ≠ B → W.heap[b]? = wr.heap[b]? := hk.block
  refine ⟨hr, ⟨hk.os.trans h.keep.os, hk.tape.trans h.keep.tape, hk.output.trans h.keep.output, Nat.le_trans h.keep.size hk.size, fun b hb hn => (bl b (Nat.lt_of_lt_of_le hb h.keep.size) hn).trans (h.keep.block b hb hn)⟩,
    (bl X (by omega) (by omega)).trans h.hX, (bl R (by omega) (by omega)).trans h.hR, rdRngs.of h.rdm hk.size (fun b hb => bl b (rdRngs.lt h.rdm b hb) (by have := h.ftm b hb; omega)), h.ftm, yI_law.ow_of h.ol (fun b hb => bl b (yI_law.ow_lt h.ol b hb) (by have := h.ftl b hb; omega)), h.ftl,
    h.row.of (fun b e hl => bl b hl (by have := h.ppM b e; omega)), fun b e => ⟨(h.ppM b e).1, Nat.lt_of_lt_of_le (h.ppM b e).2 hk.size⟩, h.len, fun x hx => (h.zok x hx).of hk.size (fun b hb => bl b ((h.zok x hx).lt b hb) (by have := (h.ft x hx b hb).1; omega)), h.ft, h.sep, b1, b2, b3, b4, b5, b6, Nat.le_trans b7 hk.size⟩
theorem PgS.app {P : Req → Prop} {B R X M : Nat} {w0 : World} {m : Lst (Int × Int × Int × Bool)} {la : Lst Int} {W w' : World} {k : Nat} {pp : Option Addr} {cp : Nat} {zs : List (Lst QT')} {p p' S : Nat} (h : PgS P B R X M w0 m la W k pp cp zs p) {a : Lst QT'} (ha : ZOk P W a) (hS : ∀ b ∈ ff a, S ≤ b) (hMS : M ≤ S) (hz : ∀ x ∈ zs, ∀ b ∈ ff x, b < S) (hpS : ∀ b, pp = some ⟨b, 0, none⟩ → b < S) {g' c' : Nat}
    (hO : ORow 31 1 w' g' c' (zs.length + 1) ((zs ++ [a]).flatMap yReqReqS.cells)) (hc : c' ≤ maxLen) (hor : pp = some ⟨g', 0, none⟩ ∨ W.heap.size ≤ g') (hk : Kept (DA B pp) W w') (hr : Rd w' B p') :
    PgS P B R X M w0 m la (w'.setCell ⟨X, 2, none⟩ (.slice (some ⟨g', 0, none⟩) (zs.length + 1) c')) (k + 1) (some ⟨g', 0, none⟩) c' (zs ++ [a]) p' := by
  obtain ⟨b1, b2, b3, b4, b5, b6, b7⟩ := h.bnd
  have hgM : M ≤ g' := by
    rcases hor with e | e
    · exact (h.ppM g' e).1
    · omega
  have bl : ∀ b, b < W.heap.size → b ≠ B → pp ≠ some ⟨b, 0, none⟩ → w'.heap[b]? = W.heap[b]? := fun b hb hn hp => hk.block b hb (fun hd => hd.elim hn hp)
  have blM : ∀ b, b < M → b ≠ B → w'.heap[b]? = W.heap[b]? := fun b hb hn => bl b (by omega) hn (fun e => by have := h.ppM b e; omega)
  have hX' := (blM X b5 (by omega)).trans h.hX
  have st : ∀ b, b ≠ X → (w'.setCell ⟨X, 2, none⟩ (.slice (some ⟨g', 0, none⟩) (zs.length + 1) c')).heap[b]? = w'.heap[b]? := fun b hb => heap_set_ne hb
  have all : ∀ b, b < M → b ≠ B → b ≠ X → (w'.setCell ⟨X, 2, none⟩ (.slice (some ⟨g', 0, none⟩) (zs.length + 1) c')).heap[b]? = W.heap[b]? := fun b hb hn hx => (st b hx).trans (blM b hb hn)
  have hsz : (w'.setCell ⟨X, 2, none⟩ (.slice (some ⟨g', 0, none⟩) (zs.length + 1) c')).heap.size = w'.heap.size := by simp
  have fm : ∀ b ∈ yMapRangeS.foot m, b ≠ X := fun b hb e => by
    obtain ⟨_, _, h3, h4⟩ := h.rdm
    rcases List.mem_append.1 hb with hb | hb
    · obtain ⟨h0, x, e1, e2⟩ := blk_mem hb
      rcases h3 with h3 | ⟨b9, off, e9, hlt, hcc⟩
      · exact h0 h3
      · rw [e9] at e1; cases e1; simp only at e2
        have hl0 : 0 < m.l.length := List.length_pos_iff.2 h0
        have hc0 := hcc 0 hl0 0 (.int .i64 m.l[0].1) rfl
        rw [e2, e, heap_cell h.hX] at hc0
        have hlt3 : off + 0 * yMapRange.sz + 0 < 3 := by
          have := (Array.getElem?_eq_some_iff.1 hc0).1
          exact this
        rcases (show off + 0 * yMapRange.sz + 0 = 0 ∨ off + 0 * yMapRange.sz + 0 = 1 ∨ off + 0 * yMapRange.sz + 0 = 2 by omega) with e0 | e0 | e0 <;> rw [e0] at hc0 <;> cases hc0
    · obtain ⟨x, _, hm⟩ := List.mem_flatMap.1 hb
      exact absurd (show b ∈ ([] : List Nat) from hm) (by simp)
  have fl : ∀ b ∈ yI.foot la, b ≠ X := fun b hb e => by
    obtain ⟨cur, E, hE, h1⟩ := yI_law.ow_ty h.ol b hb
    rw [e, h.hX] at h1
    injection h1 with h1
    injection h1 with _ h1
    rw [← h1] at hE
    exact absurd hE (by decide)
  have keep' : ∀ x ∈ zs, ∀ b ∈ ff x, (w'.setCell ⟨X, 2, none⟩ (.slice (some ⟨g', 0, none⟩) (zs.length + 1) c')).heap[b]? = W.heap[b]? := fun x hx b hb => (st b (by have := (h.ft x hx b hb).1; omega)).trans (bl b ((h.zok x hx).lt b hb) (by have := (h.ft x hx b hb).1; omega) (h.ft x hx b hb).2)
  have keepa : ∀ b ∈ ff a, (w'.setCell ⟨X, 2, none⟩ (.slice (some ⟨g', 0, none⟩) (zs.length + 1) c')).heap[b]? = W.heap[b]? := fun b hb => (st b (by have := hS b hb; omega)).trans (bl b (ha.lt b hb) (by have := hS b hb; omega) (fun e => by have := hpS b e; have := hS b hb; omega))
  have gne : ∀ b, b < W.heap.size → (pp ≠ some ⟨b, 0, none⟩) → (some ⟨g', 0, none⟩ : Option Addr) ≠ some ⟨b, 0, none⟩ := fun b hb hn e => by
    cases e
    rcases hor with e | e
    · exact hn e
    · omega
  refine ⟨hr.other (x := ⟨X, 2, none⟩) (by show B < X; omega) _, ?_, ?_, (st R (fun e => b6 e.symm)).trans ((blM R b3 (by omega)).trans h.hR), rdRngs.of h.rdm (by rw [hsz]; exact hk.size) (fun b hb => all b (h.ftm b hb).2 (by have := h.ftm b hb; omega) (fm b hb)), h.ftm, yI_law.ow_of h.ol (fun b hb => all b (h.ftl b hb).2 (by have := h.ftl b hb; omega) (fl b hb)), h.ftl, .inr ⟨g', rfl, ?_, hc⟩, ?_, by simp [h.len], ?_, ?_, ?_, b1, b2, b3, b4, b5, b6, by rw [hsz]; exact Nat.le_trans b7 hk.size⟩
  · exact ⟨hk.os.trans h.keep.os, hk.tape.trans h.keep.tape, hk.output.trans h.keep.output, by rw [hsz]; exact Nat.le_trans h.keep.size hk.size, fun b hb hn => (all b (by omega) hn (by omega)).trans (h.keep.block b hb hn)⟩
  · have := heap_set hX' 2 (.slice (some ⟨g', 0, none⟩) (zs.length + 1) c')
    simpa using this
  · rw [show (zs ++ [a]).length = zs.length + 1 by simp]
    exact hO.of (st g' (by omega))
  · intro b e
    cases e
    exact ⟨hgM, by rw [hsz]; exact hO.lt⟩
  · intro x hx
    rcases List.mem_append.1 hx with hx | hx
    · exact (h.zok x hx).of (by rw [hsz]; exact hk.size) (keep' x hx)
    · have : x = a := by simpa using hx
      subst this
      exact ha.of (by rw [hsz]; exact hk.size) keepa
  · intro x hx b hb
    rcases List.mem_append.1 hx with hx | hx
    · exact ⟨(h.ft x hx b hb).1, gne b ((h.zok x hx).lt b hb) (h.ft x hx b hb).2⟩
    · have : x = a := by simpa using hx
      subst this
      exact ⟨by have := hS b hb; omega, gne b (ha.lt b hb) (fun e => by have := hpS b e; have := hS b hb; omega)⟩
  · rw [List.pairwise_append]
    refine ⟨h.sep, List.pairwise_singleton _ _, fun x hx y hy b hb hb' => ?_⟩
    have : y = a := by simpa using hy
    subst this
    have h1 := hz x hx b hb
    have h2 := hS b hb'
    omega

end Go.Proofs.Ytlifkfemdknndaa

namespace Go.Proofs.Ytlifkfemdknndaa
open Go.RowKit
set_option linter.unusedSimpArgs false
set_option linter.unusedVariables false

theorem box_cellsD {w : World} {n j : Nat} {T : TypeId} {vs : List Value} {v : Value} (h : n = w.heap.size) (hv : vs[j]? = some v) : (w.alloc (.cells vs.toArray T)).cell? ⟨n, j, none⟩ = some v := by
  rw [heap_cell (nw_k _ h) j]; simpa using hv
/-- what l20Req draws is such -/
def ReqD (P : Req → Prop) : Prop := ∀ (B p : Nat) (w : World), Rd w B p → p ≤ 900000 → Calls Try.prog 51 #[.pointer (some ⟨B, 0, none⟩), .int .i64 99999] w fun e w' => ∃ (r : Req) (pd : Option Addr) (cd : Nat) (pl : Option Addr) (cl p' : Nat), e = .returned (reqV r pd cd pl cl) ∧ ReqAt w' r pd cd pl cl ∧ Rd w' B p' ∧ p' ≤ p + 20000 ∧ Keep B w w' ∧ (∀ b off, pd = some ⟨b, off, none⟩ → w.heap.size ≤ b) ∧ (∀ b off, pl = some ⟨b, off, none⟩ → w.heap.size ≤ b) ∧ P r
/-- what holds ahead of a try is such, too -/
def HoldD (P : Req → Prop) : Prop := ∀ r, P r → r.kind = 4 → P ⟨r.id, 3, r.addr, 1, false, [], []⟩
theorem reqD_any : ReqD (fun _ => True) := fun B p w h hp => (l20Req_any B p 99999 w h hp (by omega) (by omega)).mono (by
  rintro e w' ⟨v, rfl, r, pd, cd, pl, cl, p', rfl, hR, z1, z2, hr, hq, hK, hd, hl⟩
  exact ⟨r, pd, cd, pl, cl, p', rfl, hR, hr, hq, hK, hd, hl, trivial⟩)
theorem holdD_any : HoldD (fun _ => True) := fun _ _ _ => trivial

theorem reqK_plain (r : Req) (pd : Option Addr) (cd : Nat) (pl : Option Addr) (cl : Nat) : reqOf (yReqReq.pl (reqK r pd cd pl cl)) = r := by rw [req_plain]; rfl

def rngT (r : Rng) : (Int × Int × Int × Bool) := (r.fr, r.tt, r.sl, r.only)
theorem rngs_of {w : World} {p : Option Addr} {c : Nat} {ms : List (Int × Int × Int × Bool)} (h : RowOf w p (ms.map rngOf)) (h1 : ms.length ≤ c) (h2 : c ≤ 9223372036854775807) : yMapRangeS.rd w ⟨p, c, ms⟩ := by
  refine ⟨h1, h2, ?_, fun x _ => ⟨trivial, trivial, trivial, trivial⟩⟩
  rcases h with h | ⟨b, off, e, hlt, hc⟩
  · left
    show ms = []
    exact List.map_eq_nil_iff.1 h
  · refine .inr ⟨b, off, e, hlt, fun k hk j v hv => ?_⟩
    obtain ⟨c0, c1, c2, c3⟩ := hc k (by simpa using hk)
    simp only [List.getElem_map] at c0 c1 c2 c3
    match j with
    | 0 => have e : Value.int .i64 (ms[k]).1 = v := Option.some.inj hv
           subst e; exact c0
    | 1 => have e : Value.int .i64 (ms[k]).2.1 = v := Option.some.inj hv
           subst e; exact c1
    | 2 => have e : Value.int .i64 (ms[k]).2.2.1 = v := Option.some.inj hv
           subst e; exact c2
    | 3 => have e : Value.bool (ms[k]).2.2.2 = v := Option.some.inj hv
           subst e; exact c3
    | j + 4 => exact absurd (List.getElem?_eq_some_iff.1 hv).1 (by rw [yMapRange_law.len]; show ¬ (j + 4 < 4); omega)
theorem rngs_foot {w : World} {b c S : Nat} {ms : List (Int × Int × Int × Bool)} (h : S ≤ b) : ∀ x ∈ yMapRangeS.foot ⟨some ⟨b, 0, none⟩, c, ms⟩, x = b := by
  intro x hx
  rcases List.mem_append.1 hx with hx | hx
  · obtain ⟨_, y, e, e'⟩ := blk_mem hx
    cases e; exact e'.symm
  · obtain ⟨y, _, hm⟩ := List.mem_flatMap.1 hx
    exact absurd (show x ∈ ([] : List Nat) from hm) (by simp)

/-- how slow stores are, so far -/
structure LtS (B R X : Nat) (w : World) (b cap : Nat) (ms : List (Int × Int × Int × Bool)) (wr : World) (k : Nat) (lp : Option Addr) (lc : Nat) (ls : List Int) (p : Nat) : Prop where
  rd : Rd wr B p
  keep : Keep B w wr
  hX : wr.heap[X]? = some (.cells #[.slice (some ⟨b, 0, none⟩) ms.length cap, .slice lp ls.length lc, .slice none 0 0] 27 (0, 0))
  hR : wr.heap[R]? = some (.cells #[.slice none 0 0, .slice none 0 0, .slice none 0 0] 27 (0, 0))
  rdm : RowOf wr (some ⟨b, 0, none⟩) (ms.map rngOf)
  row : RowN 3 1 wr lp lc ls.length (ls.flatMap gInt.cells)
  lpM : ∀ g, lp = some ⟨g, 0, none⟩ → X < g ∧ g < wr.heap.size
  len : ls.length = k
  ps : ∀ x ∈ ls, 0 ≤ x ∧ x ≤ 3
  bnd : B < w.heap.size ∧ w.heap.size ≤ R ∧ R < b ∧ b < X ∧ X < wr.heap.size
theorem LtS.step {B R X : Nat} {w : World} {b cap : Nat} {ms : List (Int × Int × Int × Bool)} {wr W : World} {k : Nat} {lp : Option Addr} {lc : Nat} {ls : List Int} {p p' : Nat} (h : LtS B R X w b cap ms wr k lp lc ls p) (hk : Kept (DA B lp) wr W) (hr : Rd W B p') {x : Int} (hx : 0 ≤ x ∧ x ≤ 3) {g' c' : Nat} (hO : ORow 3 1 W g' c' (ls.length + 1) ((ls ++ [x]).flatMap gInt.cells)) (hc : c' ≤ maxLen) (hor : lp = some ⟨g', 0, none⟩ ∨ wr.heap.size ≤ g') :
    LtS B R X w b cap ms (W.setCell ⟨X, 1, none⟩ (.slice (some ⟨g', 0, none⟩) (ls.length + 1) c')) (k + 1) (some ⟨g', 0, none⟩) c' (ls ++ [x]) p' := by
  obtain ⟨b1, b2, b3, b4, b5⟩ := h.bnd
  have bl : ∀ c, c ≤ X → c ≠ B → W.heap[c]? = wr.heap[c]? := fun c hc hn => hk.block c (by omega) (fun hd => by
    rcases hd with e | e
    · exact hn e
    · have := (h.lpM c e).1; omega)
  have hX' := (bl X (Nat.le_refl _) (by omega)).trans h.hX
  have st : ∀ c, c ≠ X → (W.setCell ⟨X, 1, none⟩ (.slice (some ⟨g', 0, none⟩) (ls.length + 1) c')).heap[c]? = W.heap[c]? := fun c hc => heap_set_ne hc
  have hsz : (W.setCell ⟨X, 1, none⟩ (.slice (some ⟨g', 0, none⟩) (ls.length + 1) c')).heap.size = W.heap.size := by simp
  have hgX : X < g' := by
    rcases hor with e | e
    · exact (h.lpM g' e).1
    · omega
  refine ⟨hr.other (x := ⟨X, 1, none⟩) (by show B < X; omega) _, ⟨hk.os.trans h.keep.os, hk.tape.trans h.keep.tape, hk.output.trans h.keep.output, by rw [hsz]; exact Nat.le_trans h.keep.size hk.size, fun c hc hn => (st c (by omega)).trans ((bl c (by omega) hn).trans (h.keep.block c hc hn))⟩, ?_, (st R (by omega)).trans ((bl R (by omega) (by omega)).trans h.hR), h.rdm.of (by rw [hsz]; exact hk.size) (fun c off e hlt => by cases e; exact (st b (by omega)).trans (bl b (by omega) (by omega))), .inr ⟨g', rfl, by rw [show (ls ++ [x]).length = ls.length + 1 by simp]; exact hO.of (st g' (by omega)), hc⟩, ?_, by simp [h.len], ?_, b1, b2, b3, b4, by rw [hsz]; exact Nat.lt_of_lt_of_le b5 hk.size⟩
  · have := heap_set hX' 1 (.slice (some ⟨g', 0, none⟩) (ls.length + 1) c')
    simpa using this
  · intro g e
    cases e
    exact ⟨hgX, by rw [hsz]; exact hO.lt⟩
  · intro y hy
    rcases List.mem_append.1 hy with hy | hy
    · exact h.ps y hy
    · have : y = x := by simpa using hy
      subst this; exact hx

/-- a bus, as it was drawn -/
structure BusD (P : Req → Prop) (B : Nat) (w0 w : World) (m : Lst (Int × Int × Int × Bool)) (la : Lst Int) (gp cp : Nat) (zs : List (Lst QT')) (p : Nat) : Prop where
  rd : Rd w B p
  keep : Keep B w0 w
  rdm : yMapRangeS.rd w m
  mok : mapOkB (m.l.map rngOf) = true
  la4 : la.l.length = 4 ∧ (∀ x ∈ la.l, 0 ≤ x ∧ x ≤ 3)
  ol : ∃ gl, la.p = some ⟨gl, 0, none⟩ ∧ ORow 3 1 w gl la.c la.l.length (la.l.map (Value.int .i64)) ∧ la.c ≤ maxLen
  row : ORow 31 1 w gp cp 3 (zs.flatMap yReqReqS.cells)
  cpm : cp ≤ maxLen
  len : zs.length = 3
  zok : ∀ x ∈ zs, ZOk P w x
  sep : zs.Pairwise (fun x y => ∀ b ∈ ff x, b ∉ ff y)
  sepm : ∀ x ∈ yMapRangeS.foot m, ∀ y ∈ yI.foot la, x < y
  apart : ∃ M, B < w0.heap.size ∧ (∀ b ∈ yMapRangeS.foot m, w0.heap.size ≤ b ∧ b < M) ∧ (∀ b ∈ yI.foot la, w0.heap.size ≤ b ∧ b < M) ∧ M ≤ gp ∧ (∀ x ∈ zs, ∀ b ∈ ff x, M ≤ b ∧ b ≠ gp) ∧ w0.heap.size ≤ M

theorem below2 (w : World) (o o' : Obj) : Below w.heap.size w ((w.alloc o).alloc o') := ((Below.refl _ w).alloc (Nat.le_refl _) o).alloc (by simp) o'

set_option maxRecDepth 100000 in
set_option maxHeartbeats 8000000 in
theorem l20Bus_any {P : Req → Prop} (HD : ReqD P) (HH : HoldD P) (B p n : Nat) (w : World) (h : Rd w B p) (hp : p ≤ 300000) (hn : n ≤ 7) :
    Calls Try.prog 64 #[.pointer (some ⟨B, 0, none⟩), .int .i64 (n : Int)] w fun e w' => ∃ m la gp cp zs, e = .returned (yBusCfg.val (m, la, (⟨some ⟨gp, 0, none⟩, cp, zs⟩ : Lst (Lst QT')))) ∧ ∃ p', BusD P B w w' m la gp cp zs p' ∧ p' ≤ p + 500000 := by
  have hB := h.lt
  have HR0 := Hid.intro h
  have HDH := Hid.intro (And.intro HD HH)
  clear h HD HH
  go_enter Try.func64, Try.ntmps64
  go_wp2_with fail
  refine (l20Map_ok B p _ (HR0.out.alloc _) (by omega)).mono ?_
  rintro e w1 ⟨b, cap, q, xs, rfl, x1, x4, xc, xm, hM, hok, hb, hr, hq, hK⟩
  obtain ⟨ms, rfl⟩ : ∃ ms : List (Int × Int × Int × Bool), xs = ms.map rngOf := ⟨xs.map rngT, by rw [List.map_map]; exact (List.map_id _).symm⟩
  simp only [List.length_map] at x1 x4 xc ⊢
  simp only [World.size_alloc] at hb
  have hs1 := hK.size
  simp only [World.size_alloc] at hs1
  have hb1 : b < w1.heap.size := by
    rcases hM with h | ⟨b', off, e, hlt, _⟩
    · have : ms = [] := List.map_eq_nil_iff.1 h
      rw [this] at x1; simp at x1
    · cases e; exact hlt
  have HL0 : Hid (LtS B w.heap.size w1.heap.size w b cap ms (w1.alloc (.cells #[.slice (some ⟨b, 0, none⟩) ms.length cap, .slice none 0 0, .slice none 0 0] 27)) 0 none 0 [] q) := Hid.intro (by
    have hg := below_nw w1 (.cells #[.slice (some ⟨b, 0, none⟩) ms.length cap, .slice none 0 0, .slice none 0 0] 27)
    refine ⟨hr.alloc _, ((Keep.refl B w).alloc _).trans (hK.trans ((Keep.refl B w1).alloc _)), nw_k _ rfl, (hg.block _ (by omega)).trans ((hK.block _ (by simp) (by omega)).trans (nw_k _ rfl)), hM.below hg, .inl ⟨rfl, rfl, rfl, rfl⟩, (fun g e => by cases e), rfl, (fun x hx => by simp at hx), hB, Nat.le_refl _, by omega, hb1, by simp⟩)
  have HOK := Hid.intro (And.intro hok (And.intro xc xm))
  clear hM hok hr hK hs1 HR0 xc xm
  obtain ⟨R, hRe⟩ : ∃ R, R = w.heap.size := ⟨_, rfl⟩
  obtain ⟨X, hXe⟩ : ∃ X, X = w1.heap.size := ⟨_, rfl⟩
  obtain ⟨i0, hi, hz0, hz1, hz2⟩ := info_parts Try.infoInt
  have HII := Hid.intro (And.intro hi (And.intro hz0 (And.intro hz1 hz2)))
  clear hi hz0 hz1 hz2
  go_wp2_with fail
  rw [← hRe, ← hXe] at HL0 ⊢
  rw [← hRe] at hb
  clear hRe
  rw [← hXe] at hb1
  generalize w1.alloc (.cells #[.slice (some ⟨b, 0, none⟩) ms.length cap, .slice none 0 0, .slice none 0 0] 27) = w2 at HL0 ⊢
  clear hXe
  go_loopw [6] (fun i wr => ∃ (k : Nat) (lp : Option Addr) (lc : Nat) (ls : List Int) (p' : Nat), k ≤ 4 ∧ i = .int .i64 k ∧ Hid (LtS B R X w b cap ms wr k lp lc ls p') ∧ p' ≤ q + 400 * k) (fun i _ => 4 - (intOf i).toNat)
  case atStart => exact ⟨0, none, 0, [], q, Nat.zero_le _, rfl, HL0, by omega⟩
  case round =>
    clear HL0
    obtain ⟨k, lp, lc, ls, p', hk, rfl, HL, hp'⟩ := hrel
    by_cases hlt : k < 4
    · have hk0 : (0 : Int) ≤ (k : Int) := by omega
      have hk1 : (k : Int) ≤ 3 := by omega
      go_wp2_with fail
      have hPA : PA B wr.heap.size lp := ⟨HL.out.rd.lt, fun g e => ⟨by have := (HL.out.lpM g e).1; obtain ⟨a1, a2, a3, a4, a5⟩ := HL.out.bnd; omega, (HL.out.lpM g e).2⟩⟩
      have hXc : ∀ W, Kept (DA B lp) wr W → W.heap[X]? = some (.cells #[.slice (some ⟨b, 0, none⟩) ms.length cap, .slice lp ls.length lc, .slice none 0 0] 27 (0, 0)) := fun W hW => (hW.block X HL.out.bnd.2.2.2.2 (fun hd => by
        obtain ⟨a1, a2, a3, a4, a5⟩ := HL.out.bnd
        rcases hd with e | e
        · omega
        · have := (HL.out.lpM X e).1; omega)).trans HL.out.hX
      refine wp_region_then (by kernel_rfl) (RA B lp wr.heap.size 3 1 ls.length (fun _ cs => ∃ x : Int, (0 ≤ x ∧ x ≤ 3) ∧ cs = (ls ++ [x]).flatMap gInt.cells)) (CA B p' 40 lp lc 3 1 ls.length (ls.flatMap gInt.cells) wr)
        (tab [(18, kIs (.pointer (some ⟨X, 1, none⟩))), (19, kIs (.slice lp ls.length lc)), (20, kIs (.pointer (some ⟨B, 0, none⟩))), (21, kInt 0 3), (22, kNw gInt wr.heap.size (fun _ cs => ∃ x : Int, (0 ≤ x ∧ x ≤ 3) ∧ cs = (ls ++ [x]).flatMap gInt.cells) ls), (23, kAp lp wr.heap.size 3 1 ls.length (fun _ cs => ∃ x : Int, (0 ≤ x ∧ x ≤ 3) ∧ cs = (ls ++ [x]).flatMap gInt.cells)), (24, kIs (.pointer (some ⟨X, 1, none⟩)))])
        7 _ [18, 19, 20, 21, 22, 23, 24] rfl rfl (by kernel_rfl) (by kernel_rfl) rfl (by kernel_rfl) ?_ ?_ ?_ ?_
      · refine tabR_stable ?_
        intro x hx
        simp only [List.mem_cons, List.not_mem_nil, or_false] at hx
        rcases hx with rfl | rfl | rfl | rfl | rfl | rfl | rfl
        all_goals intro w w' v hr hv
        all_goals first | exact hv | exact kNw_ra (SU.const _ _) hr hv | exact kAp_ra (SU.const _ _) hr hv
      · exact ⟨⟨p', by omega, HL.out.rd.below (Below.refl _ _).drew⟩, Kept.drew _ _, HL.out.row.of (fun b _ hl => (Below.refl _ wr).drew.block b hl)⟩
      · refine ops_cons (gd rfl <| tx_pure rfl rfl (fun _ _ h => h.next) RA.refl (fun i ρ W hat hW => ?_)) ?_
        · have e2 := hat.out 5 (by kernel_rfl)
          simp [Act.eval] at e2
          simp only [execOp, e2]; go_simp
        refine ops_cons (gd rfl <| tx_pure rfl rfl (fun _ _ h => h.next) RA.refl (fun i ρ W hat hW => ?_)) ?_
        · have e2 : ρ (.tmp 18) = _ := hat.dep 18 (by kernel_rfl)
          have c1 : W.cell? ⟨X, 1, none⟩ = some (.slice lp ls.length lc) := heap_cell (hXc W hW.2.1) 1
          simp only [execOp, e2]; go_simp
        refine ops_cons (gd rfl <| tx_pure rfl rfl (fun _ _ h => h.next) RA.refl (fun i ρ W hat hW => ?_)) ?_
        · have e2 := hat.out 0 (by kernel_rfl)
          simp [Act.eval] at e2
          simp only [execOp, e2]; go_simp
        refine ops_cons (gd rfl <| ca_pick (SU.const _ _) (by omega) hPA rfl rfl (by kernel_rfl) rfl rfl (by decide) (by decide) (by simp; omega)) ?_
        refine ops_cons (gd rfl <| tx_val rfl (fun i ρ W _ hat hW => ?_)) ?_
        · obtain ⟨x, ex, lx, ux⟩ : kInt 0 3 W (ρ (.tmp 21)) := hat.dep 21 (by kernel_rfl)
          have hg := below_nw W (.cells #[.int .i64 x] 3)
          exact ⟨.slice (some ⟨W.heap.size, 0, none⟩) 1 1, W.alloc (.cells #[.int .i64 x] 3), by simp only [execOp, ex]; go_simp, hW.gr hg, RA.gr (SU.const _ _) hg, ⟨W.heap.size, x, rfl, hW.2.1.size, by simp, fun j u hj => box_cellsD (vs := gInt.cells x) rfl hj, x, ⟨lx, ux⟩, rfl⟩⟩
        refine ops_cons (gd rfl <| ca_app (K := gInt) gInt_law Try.underlying24 HII.out.1 HII.out.2.1 HII.out.2.2.1 HII.out.2.2.2 rfl (by decide) ls (SU.const _ _) hPA rfl (by have := HL.out.len; omega) rfl rfl (by kernel_rfl) (by kernel_rfl) rfl rfl rfl) ?_
        refine ops_cons (gd rfl <| tx_pure rfl rfl (fun _ _ h => h.next) RA.refl (fun i ρ W hat hW => ?_)) ?_
        · have e2 := hat.out 5 (by kernel_rfl)
          simp [Act.eval] at e2
          simp only [execOp, e2]; go_simp
        exact ops_nil
      · intro f W hW hf
        obtain ⟨g', c', cs, e23, ⟨x, hx, rfl⟩, hO, hc, hor⟩ : kAp lp wr.heap.size 3 1 ls.length (fun _ cs => ∃ x : Int, (0 ≤ x ∧ x ≤ 3) ∧ cs = (ls ++ [x]).flatMap gInt.cells) W (f 23) := hf 23 (by simp)
        have e24 : f 24 = .pointer (some ⟨X, 1, none⟩) := hf 24 (by simp)
        clear hf
        obtain ⟨⟨q1, hq1, hrW⟩, hkW, _⟩ := hW
        have HL2 := Hid.intro (HL.out.step hkW hrW hx hO hc hor)
        have cc : W.cell? ⟨X, 1, none⟩ = some (.slice lp ls.length lc) := heap_cell (hXc W hkW) 1
        have dd : W.frozen? ⟨X, 1, none⟩ = false := heap_free (hXc W hkW) 1
        clear hXc hPA HL hkW hrW hO hor
        simp only [fill, e23, e24]
        go_simp
        go_wp2
        go_roundw
        case rel => exact ⟨k + 1, some ⟨g', 0, none⟩, c', ls ++ [x], q1, by omega, by go_num, HL2, by omega⟩
        case measure => simp [intOf]; omega
    · have hk4 : k = 4 := by omega
      have hkI : ¬ ((k : Int) ≤ 3) := by omega
      have HP0 : Hid (PgS P B R X wr.heap.size w (⟨some ⟨b, 0, none⟩, cap, ms⟩ : Lst (Int × Int × Int × Bool)) ⟨lp, lc, ls⟩ wr 0 none 0 [] p') := Hid.intro (by
        obtain ⟨a1, a2, a3, a4, a5⟩ := HL.out.bnd
        refine ⟨HL.out.rd, HL.out.keep, HL.out.hX, HL.out.hR, rngs_of HL.out.rdm (by have := HOK.out.2.1; simpa using this) (by have := HOK.out.2.2; omega), (fun x hx => by have := rngs_foot (w := wr) (S := 0) (Nat.zero_le _) x hx; omega), ?_, (fun x hx => ?_), .inl ⟨rfl, rfl, rfl, rfl⟩, (fun c e => by cases e), rfl, (fun x hx => by simp at hx), (fun x hx => by simp at hx), List.Pairwise.nil, a1, by omega, by omega, by omega, a5, by omega, Nat.le_refl _⟩
        · rcases HL.out.row with ⟨_, _, e, _⟩ | ⟨g, e, hO, hc⟩
          · have := HL.out.len; omega
          · refine yI_ow.2 ⟨by obtain ⟨_, _, _, h, _⟩ := hO; exact h, by unfold maxLen at hc; exact hc, .inr ⟨g, e, ?_⟩⟩
            rw [← flat_int]; exact hO
        · rw [yI_foot] at hx
          obtain ⟨_, y, e, e'⟩ := blk_mem hx
          rcases HL.out.row with ⟨e0, _⟩ | ⟨g, e0, hO, hc⟩
          · have e1 : lp = some y := e
            rw [e0] at e1; cases e1
          · have e1 : lp = some y := e
            rw [e0] at e1; cases e1; simp only at e'; subst e'
            have := HL.out.lpM g e0
            omega)
      have HLA : Hid (ls.length = 4 ∧ (∀ x ∈ ls, 0 ≤ x ∧ x ≤ 3) ∧ ∃ gl, lp = some ⟨gl, 0, none⟩ ∧ b < gl) := Hid.intro ⟨by rw [HL.out.len, hk4], HL.out.ps, by
        rcases HL.out.row with ⟨_, _, e, _⟩ | ⟨g, e, _⟩
        · have := HL.out.len; omega
        · exact ⟨g, e, by have := (HL.out.lpM g e).1; have := HL.out.bnd; omega⟩⟩
      have hpM : p' ≤ p + 1604 := by omega
      clear HL
      obtain ⟨M, hM⟩ : ∃ M, M = wr.heap.size := ⟨_, rfl⟩
      rw [← hM] at HP0
      clear hM
      go_wp2_with fail
      go_loopw [7] (fun i wr => ∃ (k : Nat) (pp : Option Addr) (cp : Nat) (zs : List (Lst QT')) (p' : Nat), k ≤ 3 ∧ i = .int .i64 k ∧ Hid (PgS P B R X M w (⟨some ⟨b, 0, none⟩, cap, ms⟩ : Lst (Int × Int × Int × Bool)) ⟨lp, lc, ls⟩ wr k pp cp zs p') ∧ p' ≤ p + 1700 + 150000 * k) (fun i _ => 3 - (intOf i).toNat)
      case atStart => exact ⟨0, none, 0, [], p', Nat.zero_le _, rfl, HP0, by omega⟩
      case round =>
        clear HP0 hpM hp' hk hk4 hkI
        obtain ⟨k, pp, cp, zs, p', hk, rfl, HPG, hp'⟩ := hrel
        by_cases hlt : k < 3
        · have hk0 : (0 : Int) ≤ (k : Int) := by omega
          have hk1 : (k : Int) < 3 := by omega
          have hPn : p' ≤ p + 400000 := by omega
          go_wp2_with fail
          refine (pick_at (HPG.out.rd.alloc (.cells #[] 40)) (by omega) ((n : Int) + 1) (by omega) (by omega)).mono ?_
          rintro e w5 ⟨j0, aj, bj, rfl, hr5, hK5⟩
          obtain ⟨jj, rfl⟩ := Int.eq_ofNat_of_zero_le aj
          have HQ0 : Hid (QL P B wr.heap.size w5 w5 wr.heap.size 0 [] (p' + 1)) := Hid.intro ⟨⟨#[], (hK5.block _ (by simp) (by have := HPG.out.rd.lt; omega)).trans (nw_k _ rfl), rfl, Nat.le_refl _, rfl, rfl⟩, by unfold maxLen; omega, Nat.le_refl _, (fun q hq => by simp at hq), hr5, KM.refl _ _ _, HPG.out.rd.lt, by have := hK5.size; simp at this; omega⟩
          have HKM : Hid (KM wr.heap.size B wr w5) := Hid.intro ((KM.keep ((Keep.refl B wr).alloc (.cells #[] 40)) (Nat.le_refl _)).trans (KM.keep hK5 (by simp)))
          obtain ⟨S, hSe⟩ : ∃ S, S = wr.heap.size := ⟨_, rfl⟩
          have hS5 : S ≤ w5.heap.size := by have := hK5.size; simp at this; omega
          have HSE := Hid.intro hSe
          rw [← hSe] at HQ0 HKM ⊢
          obtain ⟨j0, hj0, jz0, jz1, jz2⟩ := info_parts Try.infoReqReqS
          have HI := Hid.intro (And.intro hj0 (And.intro jz0 (And.intro jz1 jz2)))
          clear hj0 jz0 jz1 jz2 hSe hr5 hK5
          go_wp2_with fail
          go_loopw [9, 8] (fun i t wx => ∃ (kk g cp : Nat) (ys : List QT') (p1 : Nat), i = .int .i64 (kk : Int) ∧ t = .slice (some ⟨g, 0, none⟩) ys.length cp ∧ Hid (QL P B S w5 wx g cp ys p1) ∧ p1 + 20100 * kk ≤ p' + 140701 ∧ ys.length + 2 * kk ≤ 14 ∧ kk ≤ 7) (fun i _ _ => (intOf i).toNat)
          case atStart => exact ⟨jj, S, 0, [], p' + 1, rfl, rfl, HQ0, by omega, by simp; omega, by omega⟩
          case round =>
            clear HQ0 aj bj
            obtain ⟨kk, g, cq, ys, p1, rfl, rfl, HQ, hp1, hyl', hkk⟩ := hrel
            have hyl : ys.length ≤ 2000000 := by omega
            by_cases hpos : 0 < kk
            · have hposI : (0 : Int) < (kk : Int) := by omega
              go_wp2_with fail
              refine (HDH.out.1 B p1 _ HQ.out.rd (by omega)).mono ?_
              rintro e w6 ⟨r, pd, cd, pl, cl, p6, rfl, hRA, hr6, hp6, hK6, hd, hl, hP⟩
              obtain ⟨ri, rk, ra, rm, rb, rdt, rln⟩ := r
              have HQ6 : Hid (yReqReq.rd w6 (reqK (⟨ri, rk, ra, rm, rb, rdt, rln⟩ : Req) pd cd pl cl)) := Hid.intro (reqK_rd hRA)
              have HFT : Hid (∀ b ∈ yReqReq.foot (reqK (⟨ri, rk, ra, rm, rb, rdt, rln⟩ : Req) pd cd pl cl), g < b) := Hid.intro (fun b hb => Nat.lt_of_lt_of_le HQ.out.row.lt (reqK_foot hRA hd hl b hb).1)
              have HPP : Hid (P (reqOf (yReqReq.pl (reqK (⟨ri, rk, ra, rm, rb, rdt, rln⟩ : Req) pd cd pl cl)))) := Hid.intro (by rw [reqK_plain]; exact hP)
              have HLT : Hid (∀ b ∈ yReqReq.foot (reqK (⟨ri, rk, ra, rm, rb, rdt, rln⟩ : Req) pd cd pl cl), b < w6.heap.size) := Hid.intro (fun b hb => rdReq.lt (reqK_rd hRA) b hb)
              have HGM : Hid (S ≤ g) := Hid.intro HQ.out.gM
              have HR6 : Hid (B < w6.heap.size) := Hid.intro hr6.lt
              have HGJ : Hid (g < w6.heap.size) := Hid.intro (Nat.lt_of_lt_of_le HQ.out.row.lt hK6.size)
              have HBG : Hid (B < g) := Hid.intro (Nat.lt_of_lt_of_le HQ.out.BM HQ.out.gM)
              have HPH := Hid.intro hP
              clear hRA hd hl hP
              unfold reqV
              simp only
              by_cases hk4 : rk = 4
              · subst hk4
                have HH1 : Hid (P ⟨ri, 3, ra, 1, false, [], []⟩) := Hid.intro (HDH.out.2 _ HPH.out rfl)
                by_cases hy0 : 0 < ys.length
                · have hyI : (0 : Int) < (ys.length : Int) := by omega
                  go_wp2_with fail
                  refine (pick_at (hr6.alloc (.cells #[.int .i64 ri, .int .i64 4, .int .i64 ra, .int .i64 rm, .bool rb, .slice pd rdt.length cd, .slice pl rln.length cl] 40)) (by omega) 2 (by omega) (by omega)).mono ?_
                  rintro e w7 ⟨k7, a7, b7, rfl, hr7, hK7⟩
                  have hBJ : B < w6.heap.size := HR6.out
                  have hs7 := hK7.size
                  simp only [World.size_alloc] at hs7
                  have HQW := Hid.intro (HQ.out.keep ((hK6.trans ((Keep.refl B w6).alloc (.cells #[.int .i64 ri, .int .i64 4, .int .i64 ra, .int .i64 rm, .bool rb, .slice pd rdt.length cd, .slice pl rln.length cl] 40))).trans hK7) hr7)
                  have HJ7 : Hid (w7.heap[w6.heap.size]? = some (.cells #[.int .i64 ri, .int .i64 4, .int .i64 ra, .int .i64 rm, .bool rb, .slice pd rdt.length cd, .slice pl rln.length cl] 40 (0, 0))) := Hid.intro ((hK7.block _ (by simp) (by omega)).trans (nw_k _ rfl))
                  have hq1 := yReqReq_law.rd_blw HQ6.out (below_nw w6 (.cells #[.int .i64 ri, .int .i64 4, .int .i64 ra, .int .i64 rm, .bool rb, .slice pd rdt.length cd, .slice pl rln.length cl] 40))
                  have HQR := Hid.intro (rdReq.of hq1 hK7.size (fun b hb => hK7.block b (rdReq.lt hq1 b hb) (by have h1 := HFT.out b hb; have := HBG.out; omega)))
                  clear hq1
                  have i0 : w7.cell? ⟨w6.heap.size, 0, none⟩ = some (.int .i64 ri) := heap_cell HJ7.out 0
                  have i1 : w7.cell? ⟨w6.heap.size, 1, none⟩ = some (.int .i64 4) := heap_cell HJ7.out 1
                  have i2 : w7.cell? ⟨w6.heap.size, 2, none⟩ = some (.int .i64 ra) := heap_cell HJ7.out 2
                  have i3 : w7.cell? ⟨w6.heap.size, 3, none⟩ = some (.int .i64 rm) := heap_cell HJ7.out 3
                  have i4 : w7.cell? ⟨w6.heap.size, 4, none⟩ = some (.bool rb) := heap_cell HJ7.out 4
                  have i5 : w7.cell? ⟨w6.heap.size, 5, none⟩ = some (.slice pd rdt.length cd) := heap_cell HJ7.out 5
                  have i6 : w7.cell? ⟨w6.heap.size, 6, none⟩ = some (.slice pl rln.length cl) := heap_cell HJ7.out 6
                  clear hr6 hK6 HQ6 hr7 hK7
                  by_cases h7 : k7 = 0
                  · subst h7
                    have hgJ : g < w6.heap.size := HGJ.out
                    have HQH := Hid.intro (HQW.out.keep ((Keep.refl B _).alloc (.cells #[.int .i64 ri, .int .i64 3, .int .i64 ra, .int .i64 1, .bool false, .slice none 0 0, .slice none 0 0] 40)) (HQW.out.rd.alloc (.cells #[.int .i64 ri, .int .i64 3, .int .i64 ra, .int .i64 1, .bool false, .slice none 0 0, .slice none 0 0] 40)))
                    have HRF : Hid (RowN 40 7 (w7.alloc (.cells #[.int .i64 ri, .int .i64 3, .int .i64 ra, .int .i64 1, .bool false, .slice none 0 0, .slice none 0 0] 40)) (some ⟨g, 0, none⟩) cq ys.length (ys.flatMap yReqReq.cells)) := Hid.intro (.inr ⟨g, rfl, HQH.out.row, HQH.out.cap⟩)
                    have HYF : Hid (∀ (j : Nat) (v : Value), (yReqReq.cells (reqK (⟨ri, 3, ra, 1, false, [], []⟩ : Req) none 0 none 0))[j]? = some v → (w7.alloc (.cells #[.int .i64 ri, .int .i64 3, .int .i64 ra, .int .i64 1, .bool false, .slice none 0 0, .slice none 0 0] 40)).cell? ⟨w7.heap.size, j, none⟩ = some v) := Hid.intro (fun j v hv => box_cellsD (vs := yReqReq.cells (reqK (⟨ri, 3, ra, 1, false, [], []⟩ : Req) none 0 none 0)) rfl hv)
                    have HHR : Hid (yReqReq.rd (w7.alloc (.cells #[.int .i64 ri, .int .i64 3, .int .i64 ra, .int .i64 1, .bool false, .slice none 0 0, .slice none 0 0] 40)) (reqK (⟨ri, 3, ra, 1, false, [], []⟩ : Req) none 0 none 0)) := Hid.intro ⟨trivial, trivial, trivial, trivial, trivial, yI_rd.2 ⟨Nat.le_refl _, Nat.zero_le _, .inl rfl⟩, yI_rd.2 ⟨Nat.le_refl _, Nat.zero_le _, .inl rfl⟩⟩
                    have HHF : Hid (∀ b ∈ yReqReq.foot (reqK (⟨ri, 3, ra, 1, false, [], []⟩ : Req) none 0 none 0), S ≤ b ∧ b ≠ g) := Hid.intro (fun b hb => absurd (show b ∈ ([] : List Nat) from hb) (by simp))
                    have HHP : Hid (P (reqOf (yReqReq.pl (reqK (⟨ri, 3, ra, 1, false, [], []⟩ : Req) none 0 none 0)))) := Hid.intro (by rw [reqK_plain]; exact HH1.out)
                    clear HQW
                    go_wp2_with (first | (at_builtin; refine wpList_appK (z := .agg #[.int .i64 0, .int .i64 0, .int .i64 0, .int .i64 0, .bool false, .slice none 0 0, .slice none 0 0]) yReqReq_law Try.underlying31 HI.out.1 HI.out.2.1 HI.out.2.2.1 HI.out.2.2.2 rfl (by decide) (ys) (reqK (⟨ri, 3, ra, 1, false, [], []⟩ : Req) none 0 none 0) rfl rfl rfl (by simp) HRF.out rfl HYF.out (by omega) ?_; intro gF cpF wF hO hcap hor hkp; have HF := Hid.intro (And.intro hO (And.intro hcap (And.intro hor hkp))); clear HRF HYF; have hJ8 : wF.heap[w6.heap.size]? = some (.cells #[.int .i64 ri, .int .i64 4, .int .i64 ra, .int .i64 rm, .bool rb, .slice pd rdt.length cd, .slice pl rln.length cl] 40 (0, 0)) := (hkp.block _ (Nat.lt_of_lt_of_le (heap_lt HJ7.out) (below_nw w7 _).size) (fun e => Nat.ne_of_lt HGJ.out (congrArg Addr.block (Option.some.inj e)))).trans ((Below.heap_alloc _ _ _ (heap_lt HJ7.out)).trans HJ7.out); have j0 : wF.cell? ⟨w6.heap.size, 0, none⟩ = some (.int .i64 ri) := heap_cell (hJ8) 0; have j1 : wF.cell? ⟨w6.heap.size, 1, none⟩ = some (.int .i64 4) := heap_cell (hJ8) 1; have j2 : wF.cell? ⟨w6.heap.size, 2, none⟩ = some (.int .i64 ra) := heap_cell (hJ8) 2; have j3 : wF.cell? ⟨w6.heap.size, 3, none⟩ = some (.int .i64 rm) := heap_cell (hJ8) 3; have j4 : wF.cell? ⟨w6.heap.size, 4, none⟩ = some (.bool rb) := heap_cell (hJ8) 4; have j5 : wF.cell? ⟨w6.heap.size, 5, none⟩ = some (.slice pd rdt.length cd) := heap_cell (hJ8) 5; have j6 : wF.cell? ⟨w6.heap.size, 6, none⟩ = some (.slice pl rln.length cl) := heap_cell (hJ8) 6; have hJl := heap_lt hJ8; have HQ8 := Hid.intro (HQH.out.app (q := (reqK (⟨ri, 3, ra, 1, false, [], []⟩ : Req) none 0 none 0)) HHR.out HHF.out HHP.out hO hcap hor hkp); have HQK := Hid.intro (HQ8.out.keep ((Keep.refl B _).alloc (.cells #[.int .i64 ri, .int .i64 4, .int .i64 ra, .int .i64 rm, .bool rb, .slice pd rdt.length cd, .slice pl rln.length cl] 40)) (HQ8.out.rd.alloc (.cells #[.int .i64 ri, .int .i64 4, .int .i64 ra, .int .i64 rm, .bool rb, .slice pd rdt.length cd, .slice pl rln.length cl] 40))); have HRE : Hid (RowN 40 7 (wF.alloc (.cells #[.int .i64 ri, .int .i64 4, .int .i64 ra, .int .i64 rm, .bool rb, .slice pd rdt.length cd, .slice pl rln.length cl] 40)) (some ⟨gF, 0, none⟩) cpF (ys.length + 1) ((ys ++ [(reqK (⟨ri, 3, ra, 1, false, [], []⟩ : Req) none 0 none 0)]).flatMap yReqReq.cells)) := Hid.intro (.inr ⟨gF, rfl, by have h := HQK.out.row; rw [show (ys ++ [(reqK (⟨ri, 3, ra, 1, false, [], []⟩ : Req) none 0 none 0)]).length = ys.length + 1 by simp] at h; exact h, HQK.out.cap⟩); have HYE : Hid (∀ (j : Nat) (v : Value), (yReqReq.cells (reqK (⟨ri, 4, ra, rm, rb, rdt, rln⟩ : Req) pd cd pl cl))[j]? = some v → (wF.alloc (.cells #[.int .i64 ri, .int .i64 4, .int .i64 ra, .int .i64 rm, .bool rb, .slice pd rdt.length cd, .slice pl rln.length cl] 40)).cell? ⟨wF.heap.size, j, none⟩ = some v) := Hid.intro (fun j v hv => box_cellsD (vs := yReqReq.cells (reqK (⟨ri, 4, ra, rm, rb, rdt, rln⟩ : Req) pd cd pl cl)) rfl hv); have HQ9 := Hid.intro (yReqReq_law.rd_blw (rdReq.of (yReqReq_law.rd_blw HQR.out (below_nw w7 (.cells #[.int .i64 ri, .int .i64 3, .int .i64 ra, .int .i64 1, .bool false, .slice none 0 0, .slice none 0 0] 40))) hkp.size (fun b hb => hkp.block b (Nat.lt_of_lt_of_le (rdReq.lt HQR.out b hb) (below_nw w7 _).size) (fun e => Nat.ne_of_lt (HFT.out b hb) (congrArg Addr.block (Option.some.inj e))))) (below_nw wF (.cells #[.int .i64 ri, .int .i64 4, .int .i64 ra, .int .i64 rm, .bool rb, .slice pd rdt.length cd, .slice pl rln.length cl] 40))); have HORF := Hid.intro hor; clear hO hcap hor hkp hJ8 HQ8 HQH HHR HHF HHP HF HQR HJ7 i0 i1 i2 i3 i4 i5 i6) | (at_builtin; refine wpList_appK (z := .agg #[.int .i64 0, .int .i64 0, .int .i64 0, .int .i64 0, .bool false, .slice none 0 0, .slice none 0 0]) yReqReq_law Try.underlying31 HI.out.1 HI.out.2.1 HI.out.2.2.1 HI.out.2.2.2 rfl (by decide) (ys ++ [(reqK (⟨ri, 3, ra, 1, false, [], []⟩ : Req) none 0 none 0)]) (reqK (⟨ri, 4, ra, rm, rb, rdt, rln⟩ : Req) pd cd pl cl) rfl rfl rfl (by simp) HRE.out rfl HYE.out (by omega) ?_; intro gE cpE wE hO hcap hor hkp; have HE := Hid.intro (And.intro hO (And.intro hcap (And.intro hor hkp))); clear HRE HYE; clear hO hcap hor hkp))
                    have HQN := Hid.intro (HQK.out.app (q := (reqK (⟨ri, 4, ra, rm, rb, rdt, rln⟩ : Req) pd cd pl cl)) HQ9.out (fun b hb => ⟨Nat.le_trans HGM.out (Nat.le_of_lt (HFT.out b hb)), fun e => by
                      have h1 := HFT.out b hb
                      have h2 := HLT.out b hb
                      rcases HORF.out with e1 | e1
                      · have e3 : g = gF := congrArg Addr.block (Option.some.inj e1)
                        omega
                      · simp only [World.size_alloc] at e1
                        omega⟩) HPP.out (by have h := HE.out.1; rw [show ys.length + 1 = (ys ++ [(reqK (⟨ri, 3, ra, 1, false, [], []⟩ : Req) none 0 none 0)]).length by simp] at h; exact h) HE.out.2.1 HE.out.2.2.1 HE.out.2.2.2)
                    clear HQK HE HQ9 HFT HLT HPP HDH HOK HII HLA HPG HKM HSE HQ HORF HH1 HPH
                    go_roundw
                    case rel => exact ⟨kk - 1, gE, cpE, (ys ++ [(reqK (⟨ri, 3, ra, 1, false, [], []⟩ : Req) none 0 none 0)]) ++ [(reqK (⟨ri, 4, ra, rm, rb, rdt, rln⟩ : Req) pd cd pl cl)], _, by rw [show ((kk - 1 : Nat) : Int) = (kk : Int) - 1 by omega], by simp, HQN, by omega, by simp; omega, by omega⟩
                    case measure => simp [intOf]; omega
                  · have HQB := Hid.intro (HQW.out.keep ((Keep.refl B _).alloc (.cells #[.int .i64 ri, .int .i64 4, .int .i64 ra, .int .i64 rm, .bool rb, .slice pd rdt.length cd, .slice pl rln.length cl] 40)) (HQW.out.rd.alloc (.cells #[.int .i64 ri, .int .i64 4, .int .i64 ra, .int .i64 rm, .bool rb, .slice pd rdt.length cd, .slice pl rln.length cl] 40)))
                    have HRE : Hid (RowN 40 7 (w7.alloc (.cells #[.int .i64 ri, .int .i64 4, .int .i64 ra, .int .i64 rm, .bool rb, .slice pd rdt.length cd, .slice pl rln.length cl] 40)) (some ⟨g, 0, none⟩) cq ys.length (ys.flatMap yReqReq.cells)) := Hid.intro (.inr ⟨g, rfl, HQB.out.row, HQB.out.cap⟩)
                    have HYE : Hid (∀ (j : Nat) (v : Value), (yReqReq.cells (reqK (⟨ri, 4, ra, rm, rb, rdt, rln⟩ : Req) pd cd pl cl))[j]? = some v → (w7.alloc (.cells #[.int .i64 ri, .int .i64 4, .int .i64 ra, .int .i64 rm, .bool rb, .slice pd rdt.length cd, .slice pl rln.length cl] 40)).cell? ⟨w7.heap.size, j, none⟩ = some v) := Hid.intro (fun j v hv => box_cellsD (vs := yReqReq.cells (reqK (⟨ri, 4, ra, rm, rb, rdt, rln⟩ : Req) pd cd pl cl)) (by simp) hv)
                    have HQ2 := Hid.intro (yReqReq_law.rd_blw HQR.out (below_nw w7 (.cells #[.int .i64 ri, .int .i64 4, .int .i64 ra, .int .i64 rm, .bool rb, .slice pd rdt.length cd, .slice pl rln.length cl] 40)))
                    clear HQW HQR
                    go_wp2_with (at_builtin; refine wpList_appK (z := .agg #[.int .i64 0, .int .i64 0, .int .i64 0, .int .i64 0, .bool false, .slice none 0 0, .slice none 0 0]) yReqReq_law Try.underlying31 HI.out.1 HI.out.2.1 HI.out.2.2.1 HI.out.2.2.2 rfl (by decide) (ys) (reqK (⟨ri, 4, ra, rm, rb, rdt, rln⟩ : Req) pd cd pl cl) rfl rfl rfl (by simp) HRE.out rfl HYE.out (by omega) ?_; intro gE cpE wE hO hcap hor hkp; have HE := Hid.intro (And.intro hO (And.intro hcap (And.intro hor hkp))); clear HRE HYE; clear hO hcap hor hkp)
                    have HQN := Hid.intro (HQB.out.app (q := (reqK (⟨ri, 4, ra, rm, rb, rdt, rln⟩ : Req) pd cd pl cl)) HQ2.out (fun b hb => ⟨Nat.le_trans HGM.out (Nat.le_of_lt (HFT.out b hb)), fun e => by have := HFT.out b hb; omega⟩) HPP.out HE.out.1 HE.out.2.1 HE.out.2.2.1 HE.out.2.2.2)
                    clear HQB HE HQ2 HFT HPP HDH HOK HII HLA HPG HKM HSE HQ
                    go_roundw
                    case rel => exact ⟨kk - 1, gE, cpE, ys ++ [(reqK (⟨ri, 4, ra, rm, rb, rdt, rln⟩ : Req) pd cd pl cl)], _, by rw [show ((kk - 1 : Nat) : Int) = (kk : Int) - 1 by omega], by simp, HQN, by omega, by simp; omega, by omega⟩
                    case measure => simp [intOf]; omega
                · have hyI : ¬ ((0 : Int) < (ys.length : Int)) := by omega
                  have HQW := Hid.intro (HQ.out.keep (hK6.trans ((Keep.refl B w6).alloc (.cells #[.int .i64 ri, .int .i64 4, .int .i64 ra, .int .i64 rm, .bool rb, .slice pd rdt.length cd, .slice pl rln.length cl] 40))) (hr6.alloc (.cells #[.int .i64 ri, .int .i64 4, .int .i64 ra, .int .i64 rm, .bool rb, .slice pd rdt.length cd, .slice pl rln.length cl] 40)))
                  have HQR := Hid.intro (yReqReq_law.rd_blw HQ6.out (below_nw w6 (.cells #[.int .i64 ri, .int .i64 4, .int .i64 ra, .int .i64 rm, .bool rb, .slice pd rdt.length cd, .slice pl rln.length cl] 40)))
                  clear hr6 hK6 HQ6
                  have HQB := Hid.intro (HQW.out.keep ((Keep.refl B _).alloc (.cells #[.int .i64 ri, .int .i64 4, .int .i64 ra, .int .i64 rm, .bool rb, .slice pd rdt.length cd, .slice pl rln.length cl] 40)) (HQW.out.rd.alloc (.cells #[.int .i64 ri, .int .i64 4, .int .i64 ra, .int .i64 rm, .bool rb, .slice pd rdt.length cd, .slice pl rln.length cl] 40)))
                  have HRE : Hid (RowN 40 7 ((w6.alloc (.cells #[.int .i64 ri, .int .i64 4, .int .i64 ra, .int .i64 rm, .bool rb, .slice pd rdt.length cd, .slice pl rln.length cl] 40)).alloc (.cells #[.int .i64 ri, .int .i64 4, .int .i64 ra, .int .i64 rm, .bool rb, .slice pd rdt.length cd, .slice pl rln.length cl] 40)) (some ⟨g, 0, none⟩) cq ys.length (ys.flatMap yReqReq.cells)) := Hid.intro (.inr ⟨g, rfl, HQB.out.row, HQB.out.cap⟩)
                  have HYE : Hid (∀ (j : Nat) (v : Value), (yReqReq.cells (reqK (⟨ri, 4, ra, rm, rb, rdt, rln⟩ : Req) pd cd pl cl))[j]? = some v → ((w6.alloc (.cells #[.int .i64 ri, .int .i64 4, .int .i64 ra, .int .i64 rm, .bool rb, .slice pd rdt.length cd, .slice pl rln.length cl] 40)).alloc (.cells #[.int .i64 ri, .int .i64 4, .int .i64 ra, .int .i64 rm, .bool rb, .slice pd rdt.length cd, .slice pl rln.length cl] 40)).cell? ⟨w6.heap.size + 1, j, none⟩ = some v) := Hid.intro (fun j v hv => box_cellsD (vs := yReqReq.cells (reqK (⟨ri, 4, ra, rm, rb, rdt, rln⟩ : Req) pd cd pl cl)) (by simp) hv)
                  have HQ2 := Hid.intro (yReqReq_law.rd_blw HQR.out (below_nw (w6.alloc (.cells #[.int .i64 ri, .int .i64 4, .int .i64 ra, .int .i64 rm, .bool rb, .slice pd rdt.length cd, .slice pl rln.length cl] 40)) (.cells #[.int .i64 ri, .int .i64 4, .int .i64 ra, .int .i64 rm, .bool rb, .slice pd rdt.length cd, .slice pl rln.length cl] 40)))
                  clear HQW HQR
                  go_wp2_with (at_builtin; refine wpList_appK (z := .agg #[.int .i64 0, .int .i64 0, .int .i64 0, .int .i64 0, .bool false, .slice none 0 0, .slice none 0 0]) yReqReq_law Try.underlying31 HI.out.1 HI.out.2.1 HI.out.2.2.1 HI.out.2.2.2 rfl (by decide) (ys) (reqK (⟨ri, 4, ra, rm, rb, rdt, rln⟩ : Req) pd cd pl cl) rfl rfl rfl (by simp) HRE.out rfl HYE.out (by omega) ?_; intro gE cpE wE hO hcap hor hkp; have HE := Hid.intro (And.intro hO (And.intro hcap (And.intro hor hkp))); clear HRE HYE; clear hO hcap hor hkp)
                  have HQN := Hid.intro (HQB.out.app (q := (reqK (⟨ri, 4, ra, rm, rb, rdt, rln⟩ : Req) pd cd pl cl)) HQ2.out (fun b hb => ⟨Nat.le_trans HGM.out (Nat.le_of_lt (HFT.out b hb)), fun e => by have := HFT.out b hb; omega⟩) HPP.out HE.out.1 HE.out.2.1 HE.out.2.2.1 HE.out.2.2.2)
                  clear HQB HE HQ2 HFT HPP HDH HOK HII HLA HPG HKM HSE HQ
                  go_roundw
                  case rel => exact ⟨kk - 1, gE, cpE, ys ++ [(reqK (⟨ri, 4, ra, rm, rb, rdt, rln⟩ : Req) pd cd pl cl)], _, by rw [show ((kk - 1 : Nat) : Int) = (kk : Int) - 1 by omega], by simp, HQN, by omega, by simp; omega, by omega⟩
                  case measure => simp [intOf]; omega
              · have hkI : ¬ (rk = (4 : Int)) := hk4
                have HQW := Hid.intro (HQ.out.keep (hK6.trans ((Keep.refl B w6).alloc (.cells #[.int .i64 ri, .int .i64 rk, .int .i64 ra, .int .i64 rm, .bool rb, .slice pd rdt.length cd, .slice pl rln.length cl] 40))) (hr6.alloc (.cells #[.int .i64 ri, .int .i64 rk, .int .i64 ra, .int .i64 rm, .bool rb, .slice pd rdt.length cd, .slice pl rln.length cl] 40)))
                have HQR := Hid.intro (yReqReq_law.rd_blw HQ6.out (below_nw w6 (.cells #[.int .i64 ri, .int .i64 rk, .int .i64 ra, .int .i64 rm, .bool rb, .slice pd rdt.length cd, .slice pl rln.length cl] 40)))
                clear hr6 hK6 HQ6
                have HQB := Hid.intro (HQW.out.keep ((Keep.refl B _).alloc (.cells #[.int .i64 ri, .int .i64 rk, .int .i64 ra, .int .i64 rm, .bool rb, .slice pd rdt.length cd, .slice pl rln.length cl] 40)) (HQW.out.rd.alloc (.cells #[.int .i64 ri, .int .i64 rk, .int .i64 ra, .int .i64 rm, .bool rb, .slice pd rdt.length cd, .slice pl rln.length cl] 40)))
                have HRE : Hid (RowN 40 7 ((w6.alloc (.cells #[.int .i64 ri, .int .i64 rk, .int .i64 ra, .int .i64 rm, .bool rb, .slice pd rdt.length cd, .slice pl rln.length cl] 40)).alloc (.cells #[.int .i64 ri, .int .i64 rk, .int .i64 ra, .int .i64 rm, .bool rb, .slice pd rdt.length cd, .slice pl rln.length cl] 40)) (some ⟨g, 0, none⟩) cq ys.length (ys.flatMap yReqReq.cells)) := Hid.intro (.inr ⟨g, rfl, HQB.out.row, HQB.out.cap⟩)
                have HYE : Hid (∀ (j : Nat) (v : Value), (yReqReq.cells (reqK (⟨ri, rk, ra, rm, rb, rdt, rln⟩ : Req) pd cd pl cl))[j]? = some v → ((w6.alloc (.cells #[.int .i64 ri, .int .i64 rk, .int .i64 ra, .int .i64 rm, .bool rb, .slice pd rdt.length cd, .slice pl rln.length cl] 40)).alloc (.cells #[.int .i64 ri, .int .i64 rk, .int .i64 ra, .int .i64 rm, .bool rb, .slice pd rdt.length cd, .slice pl rln.length cl] 40)).cell? ⟨w6.heap.size + 1, j, none⟩ = some v) := Hid.intro (fun j v hv => box_cellsD (vs := yReqReq.cells (reqK (⟨ri, rk, ra, rm, rb, rdt, rln⟩ : Req) pd cd pl cl)) (by simp) hv)
                have HQ2 := Hid.intro (yReqReq_law.rd_blw HQR.out (below_nw (w6.alloc (.cells #[.int .i64 ri, .int .i64 rk, .int .i64 ra, .int .i64 rm, .bool rb, .slice pd rdt.length cd, .slice pl rln.length cl] 40)) (.cells #[.int .i64 ri, .int .i64 rk, .int .i64 ra, .int .i64 rm, .bool rb, .slice pd rdt.length cd, .slice pl rln.length cl] 40)))
                clear HQW HQR
                go_wp2_with (at_builtin; refine wpList_appK (z := .agg #[.int .i64 0, .int .i64 0, .int .i64 0, .int .i64 0, .bool false, .slice none 0 0, .slice none 0 0]) yReqReq_law Try.underlying31 HI.out.1 HI.out.2.1 HI.out.2.2.1 HI.out.2.2.2 rfl (by decide) (ys) (reqK (⟨ri, rk, ra, rm, rb, rdt, rln⟩ : Req) pd cd pl cl) rfl rfl rfl (by simp) HRE.out rfl HYE.out (by omega) ?_; intro gE cpE wE hO hcap hor hkp; have HE := Hid.intro (And.intro hO (And.intro hcap (And.intro hor hkp))); clear HRE HYE; clear hO hcap hor hkp)
                have HQN := Hid.intro (HQB.out.app (q := (reqK (⟨ri, rk, ra, rm, rb, rdt, rln⟩ : Req) pd cd pl cl)) HQ2.out (fun b hb => ⟨Nat.le_trans HGM.out (Nat.le_of_lt (HFT.out b hb)), fun e => by have := HFT.out b hb; omega⟩) HPP.out HE.out.1 HE.out.2.1 HE.out.2.2.1 HE.out.2.2.2)
                clear HQB HE HQ2 HFT HPP HDH HOK HII HLA HPG HKM HSE HQ
                go_roundw
                case rel => exact ⟨kk - 1, gE, cpE, ys ++ [(reqK (⟨ri, rk, ra, rm, rb, rdt, rln⟩ : Req) pd cd pl cl)], _, by rw [show ((kk - 1 : Nat) : Int) = (kk : Int) - 1 by omega], by simp, HQN, by omega, by simp; omega, by omega⟩
                case measure => simp [intOf]; omega
            · have hposI : ¬ ((0 : Int) < (kk : Int)) := by omega
              have hkm := HKM.out.trans HQ.out.km
              rw [HSE.out] at hkm
              have HP2 := Hid.intro (HPG.out.move hkm HQ.out.rd)
              have HZS : Hid ((∀ x ∈ zs, ∀ b ∈ ff x, b < S) ∧ (∀ b, pp = some ⟨b, 0, none⟩ → b < S) ∧ M ≤ S) := Hid.intro ⟨fun x hx b hb => by rw [HSE.out]; exact (HPG.out.zok x hx).lt b hb, fun b e => by rw [HSE.out]; exact (HPG.out.ppM b e).2, by rw [HSE.out]; exact HPG.out.bnd.2.2.2.2.2.2⟩
              clear hkm HPG HKM HSE
              obtain ⟨n12, hn1, hn2, hn3⟩ : ∃ n12 : Nat, n12 ≤ ys.length ∧ n12 ≤ 12 ∧ (if (12 : Int) < (ys.length : Int) then (12 : Int) else (ys.length : Int)) = (n12 : Int) := by
                by_cases h12 : 12 < ys.length
                · exact ⟨12, by omega, by omega, by rw [if_pos (by omega)]; rfl⟩
                · exact ⟨ys.length, by omega, by omega, by rw [if_neg (by omega)]⟩
              have hzk := HQ.out.zok hn1 hn2
              have hgc : ys.length ≤ cq := by obtain ⟨_, _, _, h, _⟩ := HQ.out.row; exact h
              have hgm : cq ≤ 9223372036854775807 := by have := HQ.out.cap; unfold maxLen at this; exact this
              have hcl : yReqReqS.cells (⟨some ⟨g, 0, none⟩, cq, ys.take n12⟩ : (Lst QT')) = [.slice (some ⟨g, 0, none⟩) n12 cq] := by
                show [Value.slice (some ⟨g, 0, none⟩) (ys.take n12).length cq] = _
                rw [List.length_take, Nat.min_eq_left hn1]
              have HZK := Hid.intro hzk
              have hn12I : (n12 : Int) ≤ (cq : Int) := by omega
              have hn120 : (0 : Int) ≤ (n12 : Int) := by omega
              have hPA : PA B wr.heap.size pp := ⟨HP2.out.rd.lt, fun g e => ⟨by have := (HP2.out.ppM g e).1; obtain ⟨a1, a2, a3, a4, a5, a6, a7⟩ := HP2.out.bnd; omega, (HP2.out.ppM g e).2⟩⟩
              have hXc : ∀ W, Kept (DA B pp) wr W → W.heap[X]? = some (.cells #[.slice (some ⟨b, 0, none⟩) ms.length cap, .slice lp ls.length lc, .slice pp zs.length cp] 27 (0, 0)) := fun W hW => (hW.block X (heap_lt HP2.out.hX) (fun hd => by
                obtain ⟨a1, a2, a3, a4, a5, a6, a7⟩ := HP2.out.bnd
                rcases hd with e | e
                · omega
                · have := (HP2.out.ppM X e).1; omega)).trans HP2.out.hX
              obtain ⟨k0, hk0', kz0, kz1, kz2⟩ := info_parts Try.infoReqReqSS
              have HIS := Hid.intro (And.intro hk0' (And.intro kz0 (And.intro kz1 kz2)))
              clear hk0' kz0 kz1 kz2 hzk HQ
              go_wp2_with fail
              refine wp_region_then (by kernel_rfl) (RA B pp wr.heap.size 31 1 zs.length (fun _ cs => cs = (zs ++ [(⟨some ⟨g, 0, none⟩, cq, ys.take n12⟩ : (Lst QT'))]).flatMap yReqReqS.cells)) (CA B p1 40 pp cp 31 1 zs.length (zs.flatMap yReqReqS.cells) wr)
                (tab [(65, kIs (.pointer (some ⟨X, 2, none⟩))), (66, kIs (.slice pp zs.length cp)), (67, kIs (.slice (some ⟨g, 0, none⟩) ys.length cq)), (68, kIs (.slice (some ⟨g, 0, none⟩) ys.length cq)), (69, kIs (.int .i64 (ys.length : Int))), (70, kIs (.int .i64 (n12 : Int))), (71, kIs (.slice (some ⟨g, 0, none⟩) n12 cq)), (72, kNw yReqReqS wr.heap.size (fun _ cs => cs = (zs ++ [(⟨some ⟨g, 0, none⟩, cq, ys.take n12⟩ : (Lst QT'))]).flatMap yReqReqS.cells) zs), (73, kAp pp wr.heap.size 31 1 zs.length (fun _ cs => cs = (zs ++ [(⟨some ⟨g, 0, none⟩, cq, ys.take n12⟩ : (Lst QT'))]).flatMap yReqReqS.cells)), (74, kIs (.pointer (some ⟨X, 2, none⟩)))])
                10 _ [65, 66, 67, 68, 69, 70, 71, 72, 73, 74] rfl rfl (by kernel_rfl) (by kernel_rfl) rfl (by kernel_rfl) ?_ ?_ ?_ ?_
              · refine tabR_stable ?_
                intro x hx
                simp only [List.mem_cons, List.not_mem_nil, or_false] at hx
                rcases hx with rfl | rfl | rfl | rfl | rfl | rfl | rfl | rfl | rfl | rfl
                all_goals intro w w' v hr hv
                all_goals first | exact hv | exact kNw_ra (SU.const _ _) hr hv | exact kAp_ra (SU.const _ _) hr hv
              · exact ⟨⟨p1, by omega, HP2.out.rd.below (Below.refl _ _).drew⟩, Kept.drew _ _, HP2.out.row.of (fun b _ hl => (Below.refl _ wr).drew.block b hl)⟩
              · refine ops_cons (gd rfl <| tx_pure rfl rfl (fun _ _ h => h.next) RA.refl (fun i ρ W hat hW => ?_)) ?_
                · have e2 := hat.out 5 (by kernel_rfl)
                  simp [Act.eval] at e2
                  simp only [execOp, e2]; go_simp
                refine ops_cons (gd rfl <| tx_pure rfl rfl (fun _ _ h => h.next) RA.refl (fun i ρ W hat hW => ?_)) ?_
                · have e2 : ρ (.tmp 65) = _ := hat.dep 65 (by kernel_rfl)
                  have c1 : W.cell? ⟨X, 2, none⟩ = some (.slice pp zs.length cp) := heap_cell (hXc W hW.2.1) 2
                  simp only [execOp, e2]; go_simp
                refine ops_cons (gd rfl <| tx_pure rfl rfl (fun _ _ h => h.next) RA.refl (fun i ρ W hat hW => ?_)) ?_
                · have e2 := hat.out 8 (by kernel_rfl)
                  simp [Act.eval] at e2
                  simp only [execOp, e2]; go_simp
                refine ops_cons (gd rfl <| tx_pure rfl rfl (fun _ _ h => h.next) RA.refl (fun i ρ W hat hW => ?_)) ?_
                · have e2 := hat.out 8 (by kernel_rfl)
                  simp [Act.eval] at e2
                  simp only [execOp, e2]; go_simp
                refine ops_cons (gd rfl <| tx_pure rfl rfl (fun _ _ h => h.next) RA.refl (fun i ρ W hat hW => ?_)) ?_
                · have e2 : ρ (.tmp 68) = _ := hat.dep 68 (by kernel_rfl)
                  simp only [execOp, e2]; go_simp
                refine ops_cons (gd rfl <| tx_pure rfl rfl (fun _ _ h => h.next) RA.refl (fun i ρ W hat hW => ?_)) ?_
                · have e2 : ρ (.tmp 69) = _ := hat.dep 69 (by kernel_rfl)
                  have hcn := hat.con
                  simp only [execOp, e2]; go_simp
                refine ops_cons (gd rfl <| tx_pure rfl rfl (fun _ _ h => h.next) RA.refl (fun i ρ W hat hW => ?_)) ?_
                · have e1 : ρ (.tmp 67) = _ := hat.dep 67 (by kernel_rfl)
                  have e2 : ρ (.tmp 70) = _ := hat.dep 70 (by kernel_rfl)
                  simp only [execOp, e1, e2]; go_simp
                refine ops_cons (gd rfl <| tx_val rfl (fun i ρ W _ hat hW => ?_)) ?_
                · have e1 : ρ (.tmp 71) = _ := hat.dep 71 (by kernel_rfl)
                  have hg := below_nw W (.cells #[.slice (some ⟨g, 0, none⟩) n12 cq] 31)
                  exact ⟨.slice (some ⟨W.heap.size, 0, none⟩) 1 1, W.alloc (.cells #[.slice (some ⟨g, 0, none⟩) n12 cq] 31), by simp only [execOp, e1]; go_simp, hW.gr hg, RA.gr (SU.const _ _) hg, ⟨W.heap.size, (⟨some ⟨g, 0, none⟩, cq, ys.take n12⟩ : (Lst QT')), rfl, hW.2.1.size, by simp, fun j u hj => box_cellsD (vs := [.slice (some ⟨g, 0, none⟩) n12 cq]) rfl (by rw [← hcl]; exact hj), rfl⟩⟩
                refine ops_cons (gd rfl <| ca_app (K := yReqReqS) yReqReqS_law Try.underlying25 HIS.out.1 HIS.out.2.1 HIS.out.2.2.1 HIS.out.2.2.2 rfl (by decide) zs (SU.const _ _) hPA rfl (by have := HP2.out.len; omega) rfl rfl (by kernel_rfl) (by kernel_rfl) rfl rfl rfl) ?_
                refine ops_cons (gd rfl <| tx_pure rfl rfl (fun _ _ h => h.next) RA.refl (fun i ρ W hat hW => ?_)) ?_
                · have e2 := hat.out 5 (by kernel_rfl)
                  simp [Act.eval] at e2
                  simp only [execOp, e2]; go_simp
                exact ops_nil
              · intro f W hW hf
                obtain ⟨g', c', cs, e73, rfl, hO, hc, hor⟩ : kAp pp wr.heap.size 31 1 zs.length (fun _ cs => cs = (zs ++ [(⟨some ⟨g, 0, none⟩, cq, ys.take n12⟩ : (Lst QT'))]).flatMap yReqReqS.cells) W (f 73) := hf 73 (by simp)
                have e74 : f 74 = .pointer (some ⟨X, 2, none⟩) := hf 74 (by simp)
                clear hf
                obtain ⟨⟨q1, hq1, hrW⟩, hkW, _⟩ := hW
                have HPN := Hid.intro (HP2.out.app HZK.out.1 HZK.out.2 HZS.out.2.2 HZS.out.1 HZS.out.2.1 hO hc hor hkW hrW)
                have cc : W.cell? ⟨X, 2, none⟩ = some (.slice pp zs.length cp) := heap_cell (hXc W hkW) 2
                have dd : W.frozen? ⟨X, 2, none⟩ = false := heap_free (hXc W hkW) 2
                clear hXc hPA HP2 HZK HZS hkW hrW hO hor hcl
                simp only [fill, e73, e74]
                go_simp
                go_wp2
                go_roundw
                case rel => exact ⟨k + 1, some ⟨g', 0, none⟩, c', _, q1, by omega, by go_num, HPN, by omega⟩
                case measure => simp [intOf]; omega
        · have hkI : ¬ ((k : Int) < 3) := by omega
          have hk3 : k = 3 := by omega
          have hXT := HPG.out.hX
          have hz3 : zs.length = 3 := by rw [HPG.out.len, hk3]
          obtain ⟨gp, hpp, hOp, hcp⟩ : ∃ gp, pp = some ⟨gp, 0, none⟩ ∧ ORow 31 1 wr gp cp 3 (zs.flatMap yReqReqS.cells) ∧ cp ≤ maxLen := by
            rcases HPG.out.row with ⟨_, _, e, _⟩ | ⟨g, e, hO, hc⟩
            · omega
            · exact ⟨g, e, by rw [hz3] at hO; exact hO, hc⟩
          subst hpp
          have hx0 : wr.cell? ⟨X, 0, none⟩ = some (.slice (some ⟨b, 0, none⟩) ms.length cap) := heap_cell hXT 0
          have hx1 : wr.cell? ⟨X, 1, none⟩ = some (.slice lp ls.length lc) := heap_cell hXT 1
          have hx2 : wr.cell? ⟨X, 2, none⟩ = some (.slice (some ⟨gp, 0, none⟩) zs.length cp) := heap_cell hXT 2
          have bR' := HPG.out.hR
          have r0 : wr.cell? ⟨R, 0, none⟩ = some (.slice none 0 0) := heap_cell bR' 0
          have r1 : wr.cell? ⟨R, 1, none⟩ = some (.slice none 0 0) := heap_cell bR' 1
          have r2 : wr.cell? ⟨R, 2, none⟩ = some (.slice none 0 0) := heap_cell bR' 2
          have g0 : wr.frozen? ⟨R, 0, none⟩ = false := heap_free bR' 0
          have g1 : wr.frozen? ⟨R, 1, none⟩ = false := heap_free bR' 1
          have g2 : wr.frozen? ⟨R, 2, none⟩ = false := heap_free bR' 2
          have hf := heap_set (heap_set (heap_set bR' 0 (.slice (some ⟨b, 0, none⟩) ms.length cap)) 1 (.slice lp ls.length lc)) 2 (.slice (some ⟨gp, 0, none⟩) zs.length cp)
          have s0 := heap_cell hf 0
          have s1 := heap_cell hf 1
          have s2 := heap_cell hf 2
          simp at s0 s1 s2
          have HFIN : Hid (BusD P B w (((wr.setCell ⟨R, 0, none⟩ (.slice (some ⟨b, 0, none⟩) ms.length cap)).setCell ⟨R, 1, none⟩ (.slice lp ls.length lc)).setCell ⟨R, 2, none⟩ (.slice (some ⟨gp, 0, none⟩) zs.length cp)) (⟨some ⟨b, 0, none⟩, cap, ms⟩ : Lst (Int × Int × Int × Bool)) ⟨lp, lc, ls⟩ gp cp zs p') := Hid.intro (by
            obtain ⟨a1, a2, a3, a4, a5, a6, a7⟩ := HPG.out.bnd
            have hne : ∀ x, x ≠ R → (((wr.setCell ⟨R, 0, none⟩ (.slice (some ⟨b, 0, none⟩) ms.length cap)).setCell ⟨R, 1, none⟩ (.slice lp ls.length lc)).setCell ⟨R, 2, none⟩ (.slice (some ⟨gp, 0, none⟩) zs.length cp)).heap[x]? = wr.heap[x]? := fun x hx => (heap_set_ne hx).trans ((heap_set_ne hx).trans (heap_set_ne hx))
            have hsz : (((wr.setCell ⟨R, 0, none⟩ (.slice (some ⟨b, 0, none⟩) ms.length cap)).setCell ⟨R, 1, none⟩ (.slice lp ls.length lc)).setCell ⟨R, 2, none⟩ (.slice (some ⟨gp, 0, none⟩) zs.length cp)).heap.size = wr.heap.size := by simp
            obtain ⟨gl, hgl, hbgl⟩ := HLA.out.2.2
            have hol := yI_ow.1 HPG.out.ol
            have hlO : ORow 3 1 wr gl lc ls.length (ls.map (Value.int .i64)) := by
              rcases hol.2.2 with h | ⟨g, e, hO⟩
              · have h4 := HLA.out.1
                have h : ls = [] := h
                rw [h] at h4; simp at h4
              · have e : lp = some ⟨g, 0, none⟩ := e
                rw [hgl] at e; cases e; exact hO
            have hlR : gl ≠ R := fun e => by
              obtain ⟨cur, h1, _⟩ := hlO
              rw [e, bR'] at h1
              injection h1 with h1
              injection h1 with _ h1
              exact absurd h1 (by decide)
            have hgR : gp ≠ R := by have := (HPG.out.ppM gp rfl).1; omega
            have hbR : b ≠ R := by omega
            refine ⟨HPG.out.rd.of (fun c hc => hne c (by omega)) (by rw [hsz]; exact Nat.le_refl _), ⟨HPG.out.keep.os, HPG.out.keep.tape, HPG.out.keep.output, by rw [hsz]; exact HPG.out.keep.size, fun c hc hn => (hne c (by omega)).trans (HPG.out.keep.block c hc hn)⟩, rdRngs.of HPG.out.rdm (by rw [hsz]; exact Nat.le_refl _) (fun x hx => hne x (by rw [rngs_foot (w := wr) (S := 0) (Nat.zero_le _) x hx]; exact hbR)), HOK.out.1, ⟨HLA.out.1, HLA.out.2.1⟩, ⟨gl, hgl, hlO.of (hne gl hlR), ?_⟩, hOp.of (hne gp hgR), hcp, hz3, fun x hx => (HPG.out.zok x hx).of (by rw [hsz]; exact Nat.le_refl _) (fun c hc => hne c (by have := (HPG.out.ft x hx c hc).1; omega)), HPG.out.sep, (fun x hx y hy => by
              rw [rngs_foot (w := wr) (S := 0) (Nat.zero_le _) x hx]
              rw [yI_foot] at hy
              obtain ⟨_, u, e, e'⟩ := blk_mem hy
              have e : lp = some u := e
              rw [hgl] at e; cases e; simp only at e'; omega), ⟨M, a1, fun x hx => HPG.out.ftm x hx, fun x hx => HPG.out.ftl x hx, (HPG.out.ppM gp rfl).1, fun x hx c hc => ⟨(HPG.out.ft x hx c hc).1, fun e => (HPG.out.ft x hx c hc).2 (by rw [e])⟩, by omega⟩⟩
            unfold maxLen
            exact hol.2.1)
          have hpf : p' ≤ p + 500000 := by omega
          clear hf hXT bR' HPG hOp hz3 HLA HOK
          go_wp2
          refine bodyPost_ret (v := .agg #[.slice (some ⟨b, 0, none⟩) ms.length cap, .slice lp ls.length lc, .slice (some ⟨gp, 0, none⟩) zs.length cp]) (by simp [results, Try.results64, go_sem, s0, s1, s2]) rfl ⟨(⟨some ⟨b, 0, none⟩, cap, ms⟩ : Lst (Int × Int × Int × Bool)), ⟨lp, lc, ls⟩, gp, cp, zs, rfl, p', HFIN.out, hpf⟩

end Go.Proofs.Ytlifkfemdknndaa
