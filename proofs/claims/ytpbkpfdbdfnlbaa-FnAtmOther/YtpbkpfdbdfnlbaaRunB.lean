/-
  What is asked, one behind the other: what comes of it, as Lean functions, and what AtmRun leaves.
-/
import Derived.Test.YtpbkpfdbdfnlbaaRunA
import Derived.Test.YtpbkpfdbdfnlbaaPairWM
import Derived.Test.YtpbkpfdbdfnlbaaKept
import Derived.Test.YtpbkpfdbdfnlbaaCrOkM
namespace Go.Proofs.Ytpbkpfdbdfnlbaa
open Go.RowKit
set_option linter.unusedSimpArgs false
set_option linter.unusedVariables false

def runSt (ms : List Rng) (who : Int) : Stt → List Req → Stt
  | s, [] => s
  | s, r :: rs => runSt ms who (atmDo ms s who r).1 rs
def runRs (ms : List Rng) (who : Int) : Stt → List Req → List Rsp
  | _, [] => []
  | s, r :: rs => (atmDo ms s who r).2 :: runRs ms who (atmDo ms s who r).1 rs
def runOkB (ms : List Rng) (s : Stt) (who : Int) (rs : List Req) : Bool := mapOkB ms && (stOkB s && (inB who 0 2 && (decide (rs.length ≤ 12) && progOkB rs)))
def runZ (ms : List Rng) (s : Stt) (who : Int) (rs : List Req) : Stt × List Rsp := if runOkB ms s who rs then (runSt ms who s rs, runRs ms who s rs) else (⟨[], []⟩, [])

theorem runSt_app (ms : List Rng) (who : Int) : ∀ (l : List Req) (s : Stt) (m : List Req), runSt ms who s (l ++ m) = runSt ms who (runSt ms who s l) m
  | [], _, _ => rfl
  | r :: l, s, m => by simp only [List.cons_append, runSt]; exact runSt_app ms who l _ m
theorem runRs_app (ms : List Rng) (who : Int) : ∀ (l : List Req) (s : Stt) (m : List Req), runRs ms who s (l ++ m) = runRs ms who s l ++ runRs ms who (runSt ms who s l) m
  | [], _, _ => rfl
  | r :: l, s, m => by simp only [List.cons_append, runSt, runRs]; rw [runRs_app ms who l _ m]
theorem runRs_len (ms : List Rng) (who : Int) : ∀ (l : List Req) (s : Stt), (runRs ms who s l).length = l.length
  | [], _ => rfl
  | r :: l, s => by simp only [runRs, List.length_cons, runRs_len ms who l]
theorem reqs_take {l : List Rq} {k : Nat} (hk : k < l.length) : reqs (l.take (k + 1)) = reqs (l.take k) ++ [l[k].r] := by
  rw [List.take_add_one]; simp only [reqs, List.map_append, List.getElem?_eq_getElem hk, Option.toList_some, List.map_cons, List.map_nil]
theorem runSt_step {ms : List Rng} {who : Int} {s : Stt} {l : List Rq} {k : Nat} (hk : k < l.length) : runSt ms who s (reqs (l.take (k + 1))) = (atmDo ms (runSt ms who s (reqs (l.take k))) who l[k].r).1 := by
  rw [reqs_take hk, runSt_app]; rfl
theorem runRs_step {ms : List Rng} {who : Int} {s : Stt} {l : List Rq} {k : Nat} (hk : k < l.length) : runRs ms who s (reqs (l.take (k + 1))) = runRs ms who s (reqs (l.take k)) ++ [(atmDo ms (runSt ms who s (reqs (l.take k))) who l[k].r).2] := by
  rw [reqs_take hk, runRs_app]; rfl
theorem run_parts {ms : List Rng} {s : Stt} {who : Int} {rs : List Req} (h : runOkB ms s who rs = true) : mapOkB ms = true ∧ stOkB s = true ∧ inB who 0 2 = true ∧ rs.length ≤ 12 ∧ progOkB rs = true := by
  simp only [runOkB, Bool.and_eq_true, decide_eq_true_eq] at h
  exact ⟨h.1, h.2.1, h.2.2.1, h.2.2.2.1, h.2.2.2.2⟩
theorem run_ok {ms : List Rng} {who : Int} (hm : mapOkB ms = true) (hw : inB who 0 2 = true) : ∀ {rs : List Req} {s : Stt}, stOkB s = true → progOkB rs = true → stOkB (runSt ms who s rs) = true
  | [], _, h, _ => h
  | r :: rs, s, h, hp => by
    simp only [progOkB, List.all_cons, Bool.and_eq_true] at hp
    exact run_ok hm hw (rs := rs) (atmDo_ok (by simp [atmOkB, hm, h, hw, hp.1])) hp.2
theorem prog_take {l : List Rq} (k : Nat) (h : progOkB (reqs l) = true) : progOkB (reqs (l.take k)) = true := by
  simp only [progOkB, reqs, List.all_eq_true, List.mem_map] at h ⊢
  rintro r ⟨q, hq, rfl⟩
  exact h _ ⟨q, List.mem_of_mem_take hq, rfl⟩
theorem prog_at {l : List Rq} {k : Nat} (hk : k < l.length) (h : progOkB (reqs l) = true) : reqOkB l[k].r = true := by
  simp only [progOkB, reqs, List.all_eq_true, List.mem_map] at h
  exact h _ ⟨l[k], List.getElem_mem hk, rfl⟩

theorem rsCells_len : ∀ l : List Rs, (rsCells l).length = l.length * 3
  | [] => rfl
  | y :: l => by
    have := rsCells_len l
    simp only [rsCells, List.flatMap_cons, List.length_append, List.length_cons] at this ⊢
    rw [this]; simp [Rs.cells]; omega
theorem rsCells_snoc (l : List Rs) (y : Rs) : rsCells (l ++ [y]) = rsCells l ++ y.cells := by simp [rsCells]
theorem rsCells_at : ∀ (l : List Rs) (k : Nat) (h : k < l.length), (rsCells l)[k * 3]? = some (.int .i64 l[k].x.id) ∧ (rsCells l)[k * 3 + 1]? = some (.int .i64 l[k].x.code) ∧ (rsCells l)[k * 3 + 2]? = some (.slice l[k].p l[k].x.data.length l[k].c)
  | y :: l, 0, h => by simp [rsCells, Rs.cells]
  | y :: l, k + 1, h => by
    have ih := rsCells_at l k (by simpa using h)
    have e : ∀ i, (k + 1) * 3 + i = (k * 3 + i) + 3 := fun i => by omega
    have e0 : (k + 1) * 3 = k * 3 + 3 := by omega
    have hc : rsCells (y :: l) = y.cells ++ rsCells l := by simp [rsCells]
    have hl : y.cells.length = 3 := rfl
    refine ⟨?_, ?_, ?_⟩
    · rw [e0, hc, List.getElem?_append_right (by omega), hl]; simpa using ih.1
    · rw [e 1, hc, List.getElem?_append_right (by omega), hl]; simpa using ih.2.1
    · rw [e 2, hc, List.getElem?_append_right (by omega), hl]; simpa using ih.2.2

theorem Try.infoRsp : (Try.prog.info? 44).map (fun i => (i.zero, i.size, i.bytes)) = some (some (.agg #[.int .i64 0, .int .i64 0, .slice none 0 0]), 3, 40) := by kernel_rfl

/-- all that was told has words of its own, from M on, apart from one another -/
structure DataOk (M : Nat) (w : World) (ys : List Rs) : Prop where
  own : ∀ y ∈ ys, OwnN M w y.p y.c y.x.data ∧ y.x.data.length ≤ y.c ∧ y.c ≤ 9223372036854775807
  apart : ys.Pairwise (fun y z => Apart y.p y.x.data z.p z.x.data)
theorem DataOk.nil (M : Nat) (w : World) : DataOk M w [] := ⟨fun _ h => by simp at h, List.Pairwise.nil⟩
theorem DataOk.of {M : Nat} {w w' : World} {ys : List Rs} (h : DataOk M w ys) (hb : ∀ b cap n cs, M ≤ b → ORow 3 1 w b cap n cs → w'.heap[b]? = w.heap[b]?) : DataOk M w' ys := by
  refine ⟨fun y hy => ?_, h.apart⟩
  obtain ⟨h1, h2, h3⟩ := h.own y hy
  refine ⟨?_, h2, h3⟩
  rcases h1 with h1 | ⟨g, e, hM, hO⟩
  · exact .inl h1
  · exact .inr ⟨g, e, hM, hO.of (hb _ _ _ _ hM hO)⟩
theorem DataOk.below {M : Nat} {w w' : World} {ys : List Rs} (h : DataOk M w ys) (hb : Below w.heap.size w w') : DataOk M w' ys := h.of (fun b _ _ _ _ hO => hb.block b hO.lt)
theorem DataOk.mono {M M' : Nat} {w : World} {ys : List Rs} (h : DataOk M w ys) (hM : M' ≤ M) : DataOk M' w ys := ⟨fun y hy => ⟨(h.own y hy).1.mono hM, (h.own y hy).2⟩, h.apart⟩
theorem DataOk.snoc {M A : Nat} {w : World} {ys : List Rs} {y : Rs} (h : DataOk M w ys) (hlt : ∀ z ∈ ys, ∀ b, z.x.data ≠ [] → z.p = some ⟨b, 0, none⟩ → b < A) (hy : OwnN A w y.p y.c y.x.data) (h1 : y.x.data.length ≤ y.c) (h2 : y.c ≤ 9223372036854775807) (hM : M ≤ A) : DataOk M w (ys ++ [y]) := by
  refine ⟨fun z hz => ?_, ?_⟩
  · rcases List.mem_append.1 hz with hz | hz
    · exact h.own z hz
    · have : z = y := by simpa using hz
      subst this
      exact ⟨hy.mono hM, h1, h2⟩
  · refine List.pairwise_append.2 ⟨h.apart, List.pairwise_singleton _ _, fun z hz u hu => ?_⟩
    have : u = y := by simpa using hu
    subst this
    by_cases hz0 : z.x.data = []
    · exact .inl hz0
    rcases hy with hy | ⟨g, e, hg, hO⟩
    · exact .inr (.inl hy)
    · refine .inr (.inr (fun e' => ?_))
      have := hlt z hz g hz0 (e'.trans e)
      omega
theorem DataOk.lt {M : Nat} {w : World} {ys : List Rs} (h : DataOk M w ys) : ∀ z ∈ ys, ∀ b, z.x.data ≠ [] → z.p = some ⟨b, 0, none⟩ → b < w.heap.size := by
  intro z hz b h0 hb
  rcases (h.own z hz).1 with h1 | ⟨g, e, _, hO⟩
  · exact absurd h1 h0
  · rw [hb] at e; cases e; exact hO.lt
theorem DataOk.at {M : Nat} {w : World} {ys : List Rs} (h : DataOk M w ys) : ∀ z ∈ ys, RspAt w z.x z.p z.c := fun z hz => ⟨(h.own z hz).1.ints, (h.own z hz).2.1, (h.own z hz).2.2⟩

/-- rows of different types are different blocks -/
theorem ORow.ne {E F s s' : Nat} {w : World} {b b' cap cap' n n' : Nat} {cs cs' : List Value} (h : ORow E s w b cap n cs) (h' : ORow F s' w b' cap' n' cs') (hE : E ≠ F) : b ≠ b' := by
  rintro rfl
  obtain ⟨cur, e, _⟩ := h
  obtain ⟨cur', e', _⟩ := h'
  rw [e] at e'
  injection e' with e'
  injection e' with _ e' _
  exact hE e'

/-- what AtmRun leaves -/
structure RunOut (M : Nat) (w : World) (s : Stt) (ys : List Rs) (pw : Option Addr) (cw : Nat) (ph : Option Addr) (ch : Nat) (g : Option Addr) (gc : Nat) : Prop where
  words : OwnN M w pw cw s.words
  holds : OwnN M w ph ch s.holds
  cw1 : s.words.length ≤ cw
  cw2 : cw ≤ 9223372036854775807
  ch1 : s.holds.length ≤ ch
  ch2 : ch ≤ 9223372036854775807
  wh : Apart pw s.words ph s.holds
  data : DataOk M w ys
  wd : ∀ y ∈ ys, Apart pw s.words y.p y.x.data
  hd : ∀ y ∈ ys, Apart ph s.holds y.p y.x.data
  row : ys = [] ∨ ∃ b, g = some ⟨b, 0, none⟩ ∧ M ≤ b ∧ ORow 44 3 w b gc ys.length (rsCells ys)
  gc1 : ys.length ≤ gc
  gc2 : gc ≤ 9223372036854775807
theorem RunOut.below {M : Nat} {w w' : World} {s : Stt} {ys : List Rs} {pw ph g : Option Addr} {cw ch gc : Nat} (h : RunOut M w s ys pw cw ph ch g gc) (hb : Below w.heap.size w w') : RunOut M w' s ys pw cw ph ch g gc :=
  ⟨h.words.below hb, h.holds.below hb, h.cw1, h.cw2, h.ch1, h.ch2, h.wh, h.data.below hb, h.wd, h.hd, h.row.imp id (fun ⟨b, e, hM, hO⟩ => ⟨b, e, hM, hO.of (hb.block b hO.lt)⟩), h.gc1, h.gc2⟩
theorem RunOut.st {M : Nat} {w : World} {s : Stt} {ys : List Rs} {pw ph g : Option Addr} {cw ch gc : Nat} (h : RunOut M w s ys pw cw ph ch g gc) : StAt w s pw cw ph ch := ⟨h.words.ints, h.holds.ints, h.cw1, h.cw2, h.ch1, h.ch2⟩
theorem RunOut.none {M : Nat} {w : World} (h : Option Addr) : RunOut M w ⟨[], []⟩ [] none 0 none 0 h 0 :=
  ⟨.inl rfl, .inl rfl, Nat.le_refl _, by omega, Nat.le_refl _, by omega, .inl rfl, DataOk.nil _ _, fun _ h => by simp at h, fun _ h => by simp at h, .inl rfl, Nat.le_refl _, by omega⟩

/-- function F answers as AtmRun -/
def AtmRunF (F : Nat) : Prop := ∀ (a : Option Addr) (cap : Nat) (ms : List Rng) (s : Stt) (pw ph : Option Addr) (cw ch : Nat) (who : Int) (q : Option Addr) (qc : Nat) (l : List Rq) (w : World),
    RowOf w a ms → ms.length ≤ cap → cap ≤ 9223372036854775807 → StAt w s pw cw ph ch → RqsAt w q l → l.length ≤ qc → qc ≤ 9223372036854775807 →
    Calls Try.prog F #[.slice a ms.length cap, stV s pw cw ph ch, .int .i64 who, .slice q l.length qc] w fun e w' =>
      ∃ qw dw qh dh g gc ys, e = .returned (.tuple #[stV (runZ ms s who (reqs l)).1 qw dw qh dh, .slice g ys.length gc]) ∧ rsps ys = (runZ ms s who (reqs l)).2 ∧ RunOut w.heap.size w' (runZ ms s who (reqs l)).1 ys qw dw qh dh g gc ∧ Below w.heap.size w w'
def AtmRunC : Prop := AtmRunF 7

theorem wpList_appR {ops : Array Oper} {rest : List Oper} {o : Oper} {a : Act} {Q : Exit → Act → World → Prop} {w : World} {s x g cap n b c : Nat} (ys : List Rs) (y : Rs) (hg : o.guard = none)
    (ho : o.op = .call { callee := .builtin .append, args := #[.tmp s, .tmp x], argTypes := #[32, 32] })
    (hs : a.eval (.tmp s) = .slice (some ⟨g, 0, none⟩) n cap) (hn : n = ys.length) (hW : ORow 44 3 w g cap n (rsCells ys)) (hcap : cap ≤ maxLen) (hx : a.eval (.tmp x) = .slice (some ⟨b, 0, none⟩) 1 c)
    (hY : w.heap[b]? = some (.cells #[.int .i64 y.x.id, .int .i64 y.x.code, .slice y.p y.x.data.length y.c] 44 (0, 0))) (hlen : n ≤ 100000)
    (h : ∀ g' cap' w', ORow 44 3 w' g' cap' (n + 1) (rsCells (ys ++ [y])) → cap' ≤ maxLen → (g' = g ∨ w.heap.size ≤ g') → Grew w w' g → wpList Try.prog ops Q rest (a.put o.dst (.slice (some ⟨g', 0, none⟩) (n + 1) cap')) w') : wpList Try.prog ops Q (o :: rest) a w := by
  obtain ⟨i0, hi, hz0, hz1, hz2⟩ := info_parts Try.infoRsp
  refine wpList_plain hg (fun K hK => ?_)
  obtain ⟨g', cap', w', e, hO, hc', hG, hg', _⟩ := run_append_rows (P := Try.prog) (w := w) (ρ := a.eval) (o := o) (xs := rsCells ys) (ys := y.cells) 32 44 i0 _ 3 40 Try.underlying32 hi hz0 hz1 hz2 rfl (by omega) ho hs hW hx rfl (fun j u hj => by
      have e1 : ((⟨b, 0, none⟩ : Addr).add j) = ⟨b, j, none⟩ := by unfold Addr.add; split <;> simp_all
      rw [e1, heap_cell hY]
      have e2 : (y.cells.toArray)[j]? = some u := by simpa using hj
      exact e2) (by simp [Rs.cells, Value.oneCell']) hcap (by unfold maxLen; omega) (by omega)
  rw [← rsCells_snoc] at hO
  unfold Oper.wp
  rw [e]
  exact hK _ _ (h g' cap' w' hO hc' hg' hG)

end Go.Proofs.Ytpbkpfdbdfnlbaa
