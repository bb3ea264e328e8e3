/-
  AtmRun of the program.
-/
import Derived.Test.YtpamjkkghghggaaGreatPairWM
import Derived.Test.YtpamjkkghghggaaGreatSpcB
import Derived.Test.YtpamjkkghghggaaGreatReqS
import Derived.Test.YtpamjkkghghggaaGreatImplUM
import Derived.Test.YtpamjkkghghggaaGreatPInt
import Derived.Test.YtpamjkkghghggaaGreatKept
import Derived.Test.YtpamjkkghghggaaGreatBoxes
import Derived.Test.YtpamjkkghghggaaGreatImpKM
/-
  What is asked, one behind the other: rows of what is asked, and of what came of it, and whether all of some may be asked.
-/
namespace Go.Proofs.YtpamjkkghghggaaGreat
open Go.RowKit
set_option linter.unusedSimpArgs false
set_option linter.unusedVariables false

/-- what is asked, and where its words and lanes lie -/
structure Rq where
  r : Req
  pd : Option Addr
  cd : Nat
  pl : Option Addr
  cl : Nat
/-- what came of something, and where its words lie -/
structure Rs where
  x : Rsp
  p : Option Addr
  c : Nat
def Rq.val (q : Rq) : Value := reqV q.r q.pd q.cd q.pl q.cl
def Rs.val (y : Rs) : Value := rspV y.x y.p y.c
def Rs.cells (y : Rs) : List Value := [.int .i64 y.x.id, .int .i64 y.x.code, .slice y.p y.x.data.length y.c]
def rsCells (l : List Rs) : List Value := l.flatMap Rs.cells
def reqs (l : List Rq) : List Req := l.map Rq.r
def rsps (l : List Rs) : List Rsp := l.map Rs.x
def progOkB (l : List Req) : Bool := l.all reqOkB

/-- a row of what is asked in memory -/
structure RqsAt (w : World) (p : Option Addr) (l : List Rq) : Prop where
  row : l = [] ∨ ∃ b off, p = some ⟨b, off, none⟩ ∧ b < w.heap.size ∧ ∀ k (h : k < l.length),
    w.cell? ⟨b, off + k * 7, none⟩ = some (.int .i64 l[k].r.id) ∧ w.cell? ⟨b, off + k * 7 + 1, none⟩ = some (.int .i64 l[k].r.kind) ∧
    w.cell? ⟨b, off + k * 7 + 2, none⟩ = some (.int .i64 l[k].r.addr) ∧ w.cell? ⟨b, off + k * 7 + 3, none⟩ = some (.int .i64 l[k].r.many) ∧
    w.cell? ⟨b, off + k * 7 + 4, none⟩ = some (.bool l[k].r.wrap) ∧ w.cell? ⟨b, off + k * 7 + 5, none⟩ = some (.slice l[k].pd l[k].r.data.length l[k].cd) ∧
    w.cell? ⟨b, off + k * 7 + 6, none⟩ = some (.slice l[k].pl l[k].r.lanes.length l[k].cl)
  ats : ∀ q ∈ l, ReqAt w q.r q.pd q.cd q.pl q.cl
theorem RqsAt.below {w w' : World} {p : Option Addr} {l : List Rq} (h : RqsAt w p l) (hb : Below w.heap.size w w') : RqsAt w' p l := by
  refine ⟨?_, fun q hq => (h.ats q hq).below hb⟩
  rcases h.row with h | ⟨b, off, h1, h2, h3⟩
  · exact .inl h
  · refine .inr ⟨b, off, h1, Nat.lt_of_lt_of_le h2 hb.size, fun k hk => ?_⟩
    obtain ⟨g0, g1, g2, g3, g4, g5, g6⟩ := h3 k hk
    exact ⟨(hb.cell (p := ⟨b, _, none⟩) h2).trans g0, (hb.cell (p := ⟨b, _, none⟩) h2).trans g1, (hb.cell (p := ⟨b, _, none⟩) h2).trans g2, (hb.cell (p := ⟨b, _, none⟩) h2).trans g3, (hb.cell (p := ⟨b, _, none⟩) h2).trans g4, (hb.cell (p := ⟨b, _, none⟩) h2).trans g5, (hb.cell (p := ⟨b, _, none⟩) h2).trans g6⟩

theorem prog_hit {l : List Rq} {k : Nat} (hk : k < l.length) (h : reqOkB l[k].r = false) : progOkB (reqs l) = false :=
  List.all_eq_false.2 ⟨l[k].r, List.mem_map.2 ⟨l[k], List.getElem_mem hk, rfl⟩, by simp [h]⟩
theorem prog_step {l : List Rq} {k : Nat} (hk : k < l.length) (h : progOkB (reqs (l.take k)) = true) (h' : reqOkB l[k].r = true) : progOkB (reqs (l.take (k + 1))) = true := by
  rw [List.take_add_one]
  simp only [progOkB, reqs, List.map_append, List.all_append, Bool.and_eq_true] at h ⊢
  exact ⟨h, by simp [hk, h']⟩
theorem prog_end {l : List Rq} {k : Nat} (hk : l.length ≤ k) (h : progOkB (reqs (l.take k)) = true) : progOkB (reqs l) = true := by
  rwa [List.take_of_length_le hk] at h

set_option maxRecDepth 100000 in
set_option maxHeartbeats 2000000 in
theorem spec_l4Prog (p : Option Addr) (cap : Nat) (l : List Rq) (w : World) (h : RqsAt w p l) (hc : l.length ≤ cap) (hm : cap ≤ 9223372036854775807) :
    Calls Tryz.prog 28 #[.slice p l.length cap] w fun e w' => e = .returned (.bool (progOkB (reqs l))) ∧ Below w.heap.size w w' := by
  have HP := Hid.intro h
  clear h
  go_enter Tryz.func28, Tryz.ntmps28
  go_wp2
  go_loopw [3] (fun i wr => ∃ k : Nat, k ≤ l.length ∧ i = .int .i64 k ∧ Below w.heap.size w wr ∧ Hid (progOkB (reqs (l.take k)) = true)) (fun i _ => l.length - (intOf i).toNat)
  case atStart => exact ⟨0, Nat.zero_le _, rfl, Below.refl _ _, Hid.intro rfl⟩
  case round =>
    obtain ⟨k, hk, rfl, hbl, HF⟩ := hrel
    by_cases hlt : k < l.length
    · have hp := HP.out.below hbl
      have HQ := Hid.intro (hp.ats _ (List.getElem_mem hlt))
      rcases hp.row with hx | ⟨b, off, rfl, hb, hcells⟩
      · subst hx; simp at hlt
      have hk0 : (0 : Int) ≤ (k : Int) := by omega
      have hk1 : (k : Int) < (l.length : Int) := by omega
      obtain ⟨c0, c1, c2, c3, c4, c5, c6⟩ := hcells k hlt
      have HC := Hid.intro (spec_ReqOk l[k].r l[k].pd l[k].pl l[k].cd l[k].cl wr HQ.out)
      unfold reqV at HC
      clear hcells HP HQ hp
      go_wp2_with fail
      refine HC.out.mono ?_
      rintro e w1 ⟨rfl, hb1⟩
      have hbl1 := hbl.trans (hb1.mono hbl.size)
      clear HC hb1 c0 c1 c2 c3 c4 c5 c6 hbl
      cases hq : reqOkB l[k].r
      · have HN := Hid.intro (prog_hit hlt hq)
        go_wp2
        go_ret
        exact ⟨by rw [HN.out]; rfl, hbl1⟩
      · have HN := Hid.intro (prog_step hlt HF.out hq)
        go_wp2
        go_roundw
        case rel => exact ⟨k + 1, by omega, by go_num, hbl1, HN⟩
        case measure => simp [intOf]; omega
    · have HN := Hid.intro (prog_end (show l.length ≤ k by omega) HF.out)
      go_wp2
      go_ret
      exact ⟨by rw [HN.out]; rfl, hbl⟩

set_option maxRecDepth 100000 in
set_option maxHeartbeats 2000000 in
theorem impl_allOk (hI : ReqOkC) (p : Option Addr) (cap : Nat) (l : List Rq) (w : World) (h : RqsAt w p l) (hc : l.length ≤ cap) (hm : cap ≤ 9223372036854775807) :
    Calls Tryz.prog 36 #[.slice p l.length cap] w fun e w' => e = .returned (.bool (progOkB (reqs l))) ∧ Below w.heap.size w w' := by
  have HP := Hid.intro h
  have HI := Hid.intro hI
  clear h hI
  go_enter Tryz.func36, Tryz.ntmps36
  go_wp2
  go_loopw [7] (fun i wr => ∃ k : Nat, k ≤ l.length ∧ i = .int .i64 k ∧ Below w.heap.size w wr ∧ Hid (progOkB (reqs (l.take k)) = true)) (fun i _ => l.length - (intOf i).toNat)
  case atStart => exact ⟨0, Nat.zero_le _, rfl, Below.refl _ _, Hid.intro rfl⟩
  case round =>
    obtain ⟨k, hk, rfl, hbl, HF⟩ := hrel
    by_cases hlt : k < l.length
    · have hp := HP.out.below hbl
      have HQ := Hid.intro (hp.ats _ (List.getElem_mem hlt))
      rcases hp.row with hx | ⟨b, off, rfl, hb, hcells⟩
      · subst hx; simp at hlt
      have hk0 : (0 : Int) ≤ (k : Int) := by omega
      have hk1 : (k : Int) < (l.length : Int) := by omega
      obtain ⟨c0, c1, c2, c3, c4, c5, c6⟩ := hcells k hlt
      have HC := Hid.intro (HI.out l[k].r l[k].pd l[k].pl l[k].cd l[k].cl)
      unfold reqV at HC
      have hs := hbl.size
      clear hcells HP hp HI
      go_wp2_with fail
      refine (HC.out _ (HQ.out.below (below_nw _ _))).mono ?_
      rintro e w1 ⟨rfl, hb1⟩
      have hbl1 := (hbl.trans ((below_nw wr _).mono hs)).trans (hb1.mono (by simp; omega))
      clear HC HQ hb1 c0 c1 c2 c3 c4 c5 c6 hbl
      cases hq : reqOkB l[k].r
      · have HN := Hid.intro (prog_hit hlt hq)
        go_wp2
        go_ret
        exact ⟨by rw [HN.out]; rfl, hbl1⟩
      · have HN := Hid.intro (prog_step hlt HF.out hq)
        go_wp2
        go_roundw
        case rel => exact ⟨k + 1, by omega, by go_num, hbl1, HN⟩
        case measure => simp [intOf]; omega
    · have HN := Hid.intro (prog_end (show l.length ≤ k by omega) HF.out)
      go_wp2
      go_ret
      exact ⟨by rw [HN.out]; rfl, hbl⟩

end Go.Proofs.YtpamjkkghghggaaGreat

/-
  What is asked, one behind the other: what comes of it, as Lean functions, and what AtmRun leaves.
-/
namespace Go.Proofs.YtpamjkkghghggaaGreat
open Go.RowKit
set_option linter.unusedSimpArgs false
set_option linter.unusedVariables false

def runSt (ms : List Rng) (who : Int) : Stt → List Req → Stt
  | s, [] => s
  | s, r :: rs => runSt ms who (atmDo ms s who r).1 rs
def runRs (ms : List Rng) (who : Int) : Stt → List Req → List Rsp
  | _, [] => []
  | s, r :: rs => (atmDo ms s who r).2 :: runRs ms who (atmDo ms s who r).1 rs
def runOkB (ms : List Rng) (s : Stt) (who : Int) (rs : List Req) : Bool := mapOkB ms && (stOkB s && (inB who 0 2 && (decide (rs.length ≤ 12) && progOkB rs)))
def runZ (ms : List Rng) (s : Stt) (who : Int) (rs : List Req) : Stt × List Rsp := if runOkB ms s who rs then (runSt ms who s rs, runRs ms who s rs) else (⟨[], []⟩, [])

theorem runSt_app (ms : List Rng) (who : Int) : ∀ (l : List Req) (s : Stt) (m : List Req), runSt ms who s (l ++ m) = runSt ms who (runSt ms who s l) m
  | [], _, _ => rfl
  | r :: l, s, m => by simp only [List.cons_append, runSt]; exact runSt_app ms who l _ m
theorem runRs_app (ms : List Rng) (who : Int) : ∀ (l : List Req) (s : Stt) (m : List Req), runRs ms who s (l ++ m) = runRs ms who s l ++ runRs ms who (runSt ms who s l) m
  | [], _, _ => rfl
  | r :: l, s, m => by simp only [List.cons_append, runSt, runRs]; rw [runRs_app ms who l _ m]
theorem runRs_len (ms : List Rng) (who : Int) : ∀ (l : List Req) (s : Stt), (runRs ms who s l).length = l.length
  | [], _ => rfl
  | r :: l, s => by simp only [runRs, List.length_cons, runRs_len ms who l]
theorem reqs_take {l : List Rq} {k : Nat} (hk : k < l.length) : reqs (l.take (k + 1)) = reqs (l.take k) ++ [l[k].r] := by
  rw [List.take_add_one]; simp only [reqs, List.map_append, List.getElem?_eq_getElem hk, Option.toList_some, List.map_cons, List.map_nil]
theorem runSt_step {ms : List Rng} {who : Int} {s : Stt} {l : List Rq} {k : Nat} (hk : k < l.length) : runSt ms who s (reqs (l.take (k + 1))) = (atmDo ms (runSt ms who s (reqs (l.take k))) who l[k].r).1 := by
  rw [reqs_take hk, runSt_app]; rfl
theorem runRs_step {ms : List Rng} {who : Int} {s : Stt} {l : List Rq} {k : Nat} (hk : k < l.length) : runRs ms who s (reqs (l.take (k + 1))) = runRs ms who s (reqs (l.take k)) ++ [(atmDo ms (runSt ms who s (reqs (l.take k))) who l[k].r).2] := by
  rw [reqs_take hk, runRs_app]; rfl
theorem run_parts {ms : List Rng} {s : Stt} {who : Int} {rs : List Req} (h : runOkB ms s who rs = true) : mapOkB ms = true ∧ stOkB s = true ∧ inB who 0 2 = true ∧ rs.length ≤ 12 ∧ progOkB rs = true := by
  simp only [runOkB, Bool.and_eq_true, decide_eq_true_eq] at h
  exact ⟨h.1, h.2.1, h.2.2.1, h.2.2.2.1, h.2.2.2.2⟩
theorem run_ok {ms : List Rng} {who : Int} (hm : mapOkB ms = true) (hw : inB who 0 2 = true) : ∀ {rs : List Req} {s : Stt}, stOkB s = true → progOkB rs = true → stOkB (runSt ms who s rs) = true
  | [], _, h, _ => h
  | r :: rs, s, h, hp => by
    simp only [progOkB, List.all_cons, Bool.and_eq_true] at hp
    exact run_ok hm hw (rs := rs) (atmDo_ok (by simp [atmOkB, hm, h, hw, hp.1])) hp.2
theorem prog_take {l : List Rq} (k : Nat) (h : progOkB (reqs l) = true) : progOkB (reqs (l.take k)) = true := by
  simp only [progOkB, reqs, List.all_eq_true, List.mem_map] at h ⊢
  rintro r ⟨q, hq, rfl⟩
  exact h _ ⟨q, List.mem_of_mem_take hq, rfl⟩
theorem prog_at {l : List Rq} {k : Nat} (hk : k < l.length) (h : progOkB (reqs l) = true) : reqOkB l[k].r = true := by
  simp only [progOkB, reqs, List.all_eq_true, List.mem_map] at h
  exact h _ ⟨l[k], List.getElem_mem hk, rfl⟩

theorem rsCells_len : ∀ l : List Rs, (rsCells l).length = l.length * 3
  | [] => rfl
  | y :: l => by
    have := rsCells_len l
    simp only [rsCells, List.flatMap_cons, List.length_append, List.length_cons] at this ⊢
    rw [this]; simp [Rs.cells]; omega
theorem rsCells_snoc (l : List Rs) (y : Rs) : rsCells (l ++ [y]) = rsCells l ++ y.cells := by simp [rsCells]
theorem rsCells_at : ∀ (l : List Rs) (k : Nat) (h : k < l.length), (rsCells l)[k * 3]? = some (.int .i64 l[k].x.id) ∧ (rsCells l)[k * 3 + 1]? = some (.int .i64 l[k].x.code) ∧ (rsCells l)[k * 3 + 2]? = some (.slice l[k].p l[k].x.data.length l[k].c)
  | y :: l, 0, h => by simp [rsCells, Rs.cells]
  | y :: l, k + 1, h => by
    have ih := rsCells_at l k (by simpa using h)
    have e : ∀ i, (k + 1) * 3 + i = (k * 3 + i) + 3 := fun i => by omega
    have e0 : (k + 1) * 3 = k * 3 + 3 := by omega
    have hc : rsCells (y :: l) = y.cells ++ rsCells l := by simp [rsCells]
    have hl : y.cells.length = 3 := rfl
    refine ⟨?_, ?_, ?_⟩
    · rw [e0, hc, List.getElem?_append_right (by omega), hl]; simpa using ih.1
    · rw [e 1, hc, List.getElem?_append_right (by omega), hl]; simpa using ih.2.1
    · rw [e 2, hc, List.getElem?_append_right (by omega), hl]; simpa using ih.2.2

theorem Tryz.infoRsp : (Tryz.prog.info? 63).map (fun i => (i.zero, i.size, i.bytes)) = some (some (.agg #[.int .i64 0, .int .i64 0, .slice none 0 0]), 3, 40) := by kernel_rfl

/-- all that was told has words of its own, from M on, apart from one another -/
structure DataOk (M : Nat) (w : World) (ys : List Rs) : Prop where
  own : ∀ y ∈ ys, OwnN M w y.p y.c y.x.data ∧ y.x.data.length ≤ y.c ∧ y.c ≤ 9223372036854775807
  apart : ys.Pairwise (fun y z => Apart y.p y.x.data z.p z.x.data)
theorem DataOk.nil (M : Nat) (w : World) : DataOk M w [] := ⟨fun _ h => by simp at h, List.Pairwise.nil⟩
theorem DataOk.of {M : Nat} {w w' : World} {ys : List Rs} (h : DataOk M w ys) (hb : ∀ b cap n cs, M ≤ b → ORow 3 1 w b cap n cs → w'.heap[b]? = w.heap[b]?) : DataOk M w' ys := by
  refine ⟨fun y hy => ?_, h.apart⟩
  obtain ⟨h1, h2, h3⟩ := h.own y hy
  refine ⟨?_, h2, h3⟩
  rcases h1 with h1 | ⟨g, e, hM, hO⟩
  · exact .inl h1
  · exact .inr ⟨g, e, hM, hO.of (hb _ _ _ _ hM hO)⟩
theorem DataOk.below {M : Nat} {w w' : World} {ys : List Rs} (h : DataOk M w ys) (hb : Below w.heap.size w w') : DataOk M w' ys := h.of (fun b _ _ _ _ hO => hb.block b hO.lt)
theorem DataOk.mono {M M' : Nat} {w : World} {ys : List Rs} (h : DataOk M w ys) (hM : M' ≤ M) : DataOk M' w ys := ⟨fun y hy => ⟨(h.own y hy).1.mono hM, (h.own y hy).2⟩, h.apart⟩
theorem DataOk.snoc {M A : Nat} {w : World} {ys : List Rs} {y : Rs} (h : DataOk M w ys) (hlt : ∀ z ∈ ys, ∀ b, z.x.data ≠ [] → z.p = some ⟨b, 0, none⟩ → b < A) (hy : OwnN A w y.p y.c y.x.data) (h1 : y.x.data.length ≤ y.c) (h2 : y.c ≤ 9223372036854775807) (hM : M ≤ A) : DataOk M w (ys ++ [y]) := by
  refine ⟨fun z hz => ?_, ?_⟩
  · rcases List.mem_append.1 hz with hz | hz
    · exact h.own z hz
    · have : z = y := by simpa using hz
      subst this
      exact ⟨hy.mono hM, h1, h2⟩
  · refine List.pairwise_append.2 ⟨h.apart, List.pairwise_singleton _ _, fun z hz u hu => ?_⟩
    have : u = y := by simpa using hu
    subst this
    by_cases hz0 : z.x.data = []
    · exact .inl hz0
    rcases hy with hy | ⟨g, e, hg, hO⟩
    · exact .inr (.inl hy)
    · refine .inr (.inr (fun e' => ?_))
      have := hlt z hz g hz0 (e'.trans e)
      omega
theorem DataOk.lt {M : Nat} {w : World} {ys : List Rs} (h : DataOk M w ys) : ∀ z ∈ ys, ∀ b, z.x.data ≠ [] → z.p = some ⟨b, 0, none⟩ → b < w.heap.size := by
  intro z hz b h0 hb
  rcases (h.own z hz).1 with h1 | ⟨g, e, _, hO⟩
  · exact absurd h1 h0
  · rw [hb] at e; cases e; exact hO.lt
theorem DataOk.at {M : Nat} {w : World} {ys : List Rs} (h : DataOk M w ys) : ∀ z ∈ ys, RspAt w z.x z.p z.c := fun z hz => ⟨(h.own z hz).1.ints, (h.own z hz).2.1, (h.own z hz).2.2⟩

/-- rows of different types are different blocks -/
theorem ORow.ne {E F s s' : Nat} {w : World} {b b' cap cap' n n' : Nat} {cs cs' : List Value} (h : ORow E s w b cap n cs) (h' : ORow F s' w b' cap' n' cs') (hE : E ≠ F) : b ≠ b' := by
  rintro rfl
  obtain ⟨cur, e, _⟩ := h
  obtain ⟨cur', e', _⟩ := h'
  rw [e] at e'
  injection e' with e'
  injection e' with _ e' _
  exact hE e'

/-- what AtmRun leaves -/
structure RunOut (M : Nat) (w : World) (s : Stt) (ys : List Rs) (pw : Option Addr) (cw : Nat) (ph : Option Addr) (ch : Nat) (g : Option Addr) (gc : Nat) : Prop where
  words : OwnN M w pw cw s.words
  holds : OwnN M w ph ch s.holds
  cw1 : s.words.length ≤ cw
  cw2 : cw ≤ 9223372036854775807
  ch1 : s.holds.length ≤ ch
  ch2 : ch ≤ 9223372036854775807
  wh : Apart pw s.words ph s.holds
  data : DataOk M w ys
  wd : ∀ y ∈ ys, Apart pw s.words y.p y.x.data
  hd : ∀ y ∈ ys, Apart ph s.holds y.p y.x.data
  row : ys = [] ∨ ∃ b, g = some ⟨b, 0, none⟩ ∧ M ≤ b ∧ ORow 63 3 w b gc ys.length (rsCells ys)
  gc1 : ys.length ≤ gc
  gc2 : gc ≤ 9223372036854775807
theorem RunOut.below {M : Nat} {w w' : World} {s : Stt} {ys : List Rs} {pw ph g : Option Addr} {cw ch gc : Nat} (h : RunOut M w s ys pw cw ph ch g gc) (hb : Below w.heap.size w w') : RunOut M w' s ys pw cw ph ch g gc :=
  ⟨h.words.below hb, h.holds.below hb, h.cw1, h.cw2, h.ch1, h.ch2, h.wh, h.data.below hb, h.wd, h.hd, h.row.imp id (fun ⟨b, e, hM, hO⟩ => ⟨b, e, hM, hO.of (hb.block b hO.lt)⟩), h.gc1, h.gc2⟩
theorem RunOut.st {M : Nat} {w : World} {s : Stt} {ys : List Rs} {pw ph g : Option Addr} {cw ch gc : Nat} (h : RunOut M w s ys pw cw ph ch g gc) : StAt w s pw cw ph ch := ⟨h.words.ints, h.holds.ints, h.cw1, h.cw2, h.ch1, h.ch2⟩
theorem RunOut.none {M : Nat} {w : World} (h : Option Addr) : RunOut M w ⟨[], []⟩ [] none 0 none 0 h 0 :=
  ⟨.inl rfl, .inl rfl, Nat.le_refl _, by omega, Nat.le_refl _, by omega, .inl rfl, DataOk.nil _ _, fun _ h => by simp at h, fun _ h => by simp at h, .inl rfl, Nat.le_refl _, by omega⟩

/-- function F answers as AtmRun -/
def AtmRunF (F : Nat) : Prop := ∀ (a : Option Addr) (cap : Nat) (ms : List Rng) (s : Stt) (pw ph : Option Addr) (cw ch : Nat) (who : Int) (q : Option Addr) (qc : Nat) (l : List Rq) (w : World),
    RowOf w a ms → ms.length ≤ cap → cap ≤ 9223372036854775807 → StAt w s pw cw ph ch → RqsAt w q l → l.length ≤ qc → qc ≤ 9223372036854775807 →
    Calls Tryz.prog F #[.slice a ms.length cap, stV s pw cw ph ch, .int .i64 who, .slice q l.length qc] w fun e w' =>
      ∃ qw dw qh dh g gc ys, e = .returned (.tuple #[stV (runZ ms s who (reqs l)).1 qw dw qh dh, .slice g ys.length gc]) ∧ rsps ys = (runZ ms s who (reqs l)).2 ∧ RunOut w.heap.size w' (runZ ms s who (reqs l)).1 ys qw dw qh dh g gc ∧ Below w.heap.size w w'
def AtmRunC : Prop := AtmRunF 11

theorem wpList_appR {ops : Array Oper} {rest : List Oper} {o : Oper} {a : Act} {Q : Exit → Act → World → Prop} {w : World} {s x g cap n b c : Nat} (ys : List Rs) (y : Rs) (hg : o.guard = none)
    (ho : o.op = .call { callee := .builtin .append, args := #[.tmp s, .tmp x], argTypes := #[35, 35] })
    (hs : a.eval (.tmp s) = .slice (some ⟨g, 0, none⟩) n cap) (hn : n = ys.length) (hW : ORow 63 3 w g cap n (rsCells ys)) (hcap : cap ≤ maxLen) (hx : a.eval (.tmp x) = .slice (some ⟨b, 0, none⟩) 1 c)
    (hY : w.heap[b]? = some (.cells #[.int .i64 y.x.id, .int .i64 y.x.code, .slice y.p y.x.data.length y.c] 63 (0, 0))) (hlen : n ≤ 100000)
    (h : ∀ g' cap' w', ORow 63 3 w' g' cap' (n + 1) (rsCells (ys ++ [y])) → cap' ≤ maxLen → (g' = g ∨ w.heap.size ≤ g') → Grew w w' g → wpList Tryz.prog ops Q rest (a.put o.dst (.slice (some ⟨g', 0, none⟩) (n + 1) cap')) w') : wpList Tryz.prog ops Q (o :: rest) a w := by
  obtain ⟨i0, hi, hz0, hz1, hz2⟩ := info_parts Tryz.infoRsp
  refine wpList_plain hg (fun K hK => ?_)
  obtain ⟨g', cap', w', e, hO, hc', hG, hg', _⟩ := run_append_rows (P := Tryz.prog) (w := w) (ρ := a.eval) (o := o) (xs := rsCells ys) (ys := y.cells) 35 63 i0 _ 3 40 Tryz.underlying35 hi hz0 hz1 hz2 rfl (by omega) ho hs hW hx rfl (fun j u hj => by
      have e1 : ((⟨b, 0, none⟩ : Addr).add j) = ⟨b, j, none⟩ := by unfold Addr.add; split <;> simp_all
      rw [e1, heap_cell hY]
      have e2 : (y.cells.toArray)[j]? = some u := by simpa using hj
      exact e2) (by simp [Rs.cells, Value.oneCell']) hcap (by unfold maxLen; omega) (by omega)
  rw [← rsCells_snoc] at hO
  unfold Oper.wp
  rw [e]
  exact hK _ _ (h g' cap' w' hO hc' hg' hG)

end Go.Proofs.YtpamjkkghghggaaGreat

namespace Go.Proofs.YtpamjkkghghggaaGreat
open Go.RowKit
set_option linter.unusedSimpArgs false
set_option linter.unusedVariables false

theorem make_rsps (n : Nat) (hn : n ≤ 1048576) (W : World) : (Instr.makeSlice 35 (.int .i64 0) (.int .i64 (n : Int))).run Tryz.prog W =
      .ok (.slice (some ⟨W.heap.size, 0, none⟩) 0 n) (W.alloc (.cells (madeCells #[.int .i64 0, .int .i64 0, .slice none 0 0] (n * 3)) 63)) := by
  obtain ⟨i0, hi, hz0, hz1, hz2⟩ := info_parts Tryz.infoRsp
  have := run_make (P := Tryz.prog) W 35 63 i0 _ Tryz.underlying35 hi hz0 .i64 .i64 0 (n : Int) (by omega) (by omega) (by rw [hz2]; omega) (by omega)
  rw [hz1] at this
  have hcs : (Value.agg #[.int .i64 0, .int .i64 0, .slice none 0 0]).cells = #[.int .i64 0, .int .i64 0, .slice none 0 0] := by first | rfl | kernel_rfl | simp [go_sem] | simp [Value.cells]
  rw [hcs] at this
  simpa using this
theorem cap_rsps {w : World} {n : Nat} : ORow 63 3 (w.alloc (.cells (madeCells #[.int .i64 0, .int .i64 0, .slice none 0 0] (n * 3)) 63)) w.heap.size n 0 (rsCells []) :=
  ⟨_, nw_at _ rfl, size_madeCells _ _, Nat.zero_le _, rfl, by simp [rsCells]⟩

/-- what stands ahead of a round -/
structure RunInv (w0 : World) (M D H R8 : Nat) (ms : List Rng) (who : Int) (s : Stt) (l : List Rq) (k : Nat) (ys : List Rs) (g cap : Nat) (wr : World) : Prop where
  bel : Below w0.heap.size w0 wr
  r8 : wr.heap[R8]? = some (.cells #[.slice none 0 0, .slice none 0 0] 34 (0, 0))
  desk : Desk wr D H (runSt ms who s (reqs (l.take k)))
  told : rsps ys = runRs ms who s (reqs (l.take k))
  len : ys.length = k
  row : ORow 63 3 wr g cap k (rsCells ys)
  cap1 : cap ≤ maxLen
  data : DataOk M wr ys
  gM : w0.heap.size ≤ g
  MD : D < M
  MH : H < M
  M8 : R8 < M
  D0 : w0.heap.size ≤ D
  H0 : w0.heap.size ≤ H
  R0 : w0.heap.size ≤ R8
  ML : M ≤ wr.heap.size
  gR : g ≠ R8
  gD : g ≠ D
  gH : g ≠ H
  DR : D ≠ R8
  HR : H ≠ R8
theorem RunInv.below {w0 : World} {M D H R8 : Nat} {ms : List Rng} {who : Int} {s : Stt} {l : List Rq} {k : Nat} {ys : List Rs} {g cap : Nat} {wr w' : World} (h : RunInv w0 M D H R8 ms who s l k ys g cap wr) (hb : Below wr.heap.size wr w') : RunInv w0 M D H R8 ms who s l k ys g cap w' :=
  ⟨h.bel.trans (hb.mono h.bel.size), (hb.block _ (heap_lt h.r8)).trans h.r8, h.desk.gr hb, h.told, h.len, h.row.of (hb.block _ h.row.lt), h.cap1, h.data.below hb, h.gM, h.MD, h.MH, h.M8, h.D0, h.H0, h.R0, Nat.le_trans h.ML hb.size, h.gR, h.gD, h.gH, h.DR, h.HR⟩

/-- a round: what is asked is done (the desk turns), and what came of it is appended -/
theorem RunInv.step {w0 : World} {M D H R8 : Nat} {ms : List Rng} {who : Int} {s : Stt} {l : List Rq} {k : Nat} {ys : List Rs} {g cap : Nat} {wr w1 w2 w3 : World} (h : RunInv w0 M D H R8 ms who s l k ys g cap wr) (hk : k < l.length)
    (hb1 : Below wr.heap.size wr w1) {p : Option Addr} {c : Nat} (x : Rsp) (hx : x = (atmDo ms (runSt ms who s (reqs (l.take k))) who l[k].r).2)
    (hO : OwnN w1.heap.size w2 p c x.data) (hc1 : x.data.length ≤ c) (hc2 : c ≤ 9223372036854775807) (hd : Desk w2 D H (atmDo ms (runSt ms who s (reqs (l.take k))) who l[k].r).1) (hkp : Kept (fun b => b = D ∨ b = H) w1 w2)
    (hb3 : Below w2.heap.size w2 w3) {g' cap' : Nat} {w4 : World} (hr : ORow 63 3 w4 g' cap' (k + 1) (rsCells (ys ++ [⟨x, p, c⟩]))) (hcap : cap' ≤ maxLen) (hg : g' = g ∨ w3.heap.size ≤ g') (hG : Grew w3 w4 g) :
    RunInv w0 M D H R8 ms who s l (k + 1) (ys ++ [⟨x, p, c⟩]) g' cap' w4 := by
  have s1 := hb1.size
  have s2 := hkp.size
  have s3 := hb3.size
  have s4 := hG.size
  have hML := h.ML
  have hMD := h.MD
  have hMH := h.MH
  have hM8 := h.M8
  have hgl := h.row.lt
  have hD0 := h.D0
  have hH0 := h.H0
  have hR0 := h.R0
  have hgM := h.gM
  have hgR := h.gR
  have hgD := h.gD
  have hgH := h.gH
  have hDR := h.DR
  have hHR := h.HR
  have hsz0 := h.bel.size
  have blk : ∀ b, b < wr.heap.size → b ≠ D → b ≠ H → b ≠ g → w4.heap[b]? = wr.heap[b]? := fun b hb n1 n2 n3 =>
    (hG.block b (by omega) n3).trans ((hb3.block b (by omega)).trans ((hkp.block b (by omega) (by omega)).trans (hb1.block b hb)))
  have blk2 : ∀ b, b < w2.heap.size → b ≠ g → w4.heap[b]? = w2.heap[b]? := fun b hb n3 => (hG.block b (by omega) n3).trans (hb3.block b hb)
  have hrow2 : ORow 63 3 w2 g cap k (rsCells ys) := h.row.of ((hkp.block g (by omega) (by omega)).trans (hb1.block g hgl))
  refine ⟨⟨?_, ?_, ?_, by omega, fun b hb => (blk b (by omega) (by omega) (by omega) (by omega)).trans (h.bel.block b hb)⟩, (blk R8 (by omega) (Ne.symm hDR) (Ne.symm hHR) (Ne.symm hgR)).trans h.r8, ?_, ?_, ?_, hr, hcap, ?_, by omega, hMD, hMH, hM8, hD0, hH0, hR0, by omega, by omega, by omega, by omega, hDR, hHR⟩
  · exact hG.os.trans (hb3.os.trans (hkp.os.trans (hb1.os.trans h.bel.os)))
  · exact hG.tape.trans (hb3.tape.trans (hkp.tape.trans (hb1.tape.trans h.bel.tape)))
  · exact hG.output.trans (hb3.output.trans (hkp.output.trans (hb1.output.trans h.bel.output)))
  · rw [runSt_step hk]
    exact hd.of (blk2 D hd.ltD (by omega)) (blk2 H hd.ltH (by omega))
  · rw [runRs_step hk, ← h.told, ← hx]; simp [rsps]
  · simp [h.len]
  · have hdat : DataOk M w4 ys := h.data.of (fun b cp n cs hMb hOb => blk b hOb.lt (by omega) (by omega) (hOb.ne h.row (by decide)))
    refine hdat.snoc (A := w1.heap.size) (fun z hz b hz0 hb => ?_) ?_ hc1 hc2 (by omega)
    · have := h.data.lt z hz b hz0 hb
      omega
    · rcases hO with hO | ⟨b, e, hb, hO⟩
      · exact .inl hO
      · exact .inr ⟨b, e, hb, hO.of (blk2 b hO.lt (hO.ne hrow2 (by decide)))⟩

theorem run_no {ms : List Rng} {s : Stt} {who : Int} {rs : List Req} (h : runOkB ms s who rs = false) : runZ ms s who rs = (⟨[], []⟩, []) := by unfold runZ; rw [h]; rfl
theorem run_yes {ms : List Rng} {s : Stt} {who : Int} {rs : List Req} (h : runOkB ms s who rs = true) : runZ ms s who rs = (runSt ms who s rs, runRs ms who s rs) := by unfold runZ; rw [h]; rfl
theorem run_eq (ms : List Rng) (s : Stt) (who : Int) (rs : List Req) : runOkB ms s who rs = ((mapOkB ms && (stOkB s && inB who 0 2)) && (decide (rs.length ≤ 12) && progOkB rs)) := by
  unfold runOkB
  cases mapOkB ms <;> cases stOkB s <;> cases inB who 0 2 <;> rfl

/-- the state's two cells are set -/
theorem set2 {w : World} {b : Nat} {o0 o1 : Value} (h : w.heap[b]? = some (.cells #[o0, o1] 34 (0, 0))) (v0 v1 : Value) : ((w.setCell ⟨b, 0, none⟩ v0).setCell ⟨b, 1, none⟩ v1).heap[b]? = some (.cells #[v0, v1] 34 (0, 0)) :=
  (heap_set (heap_set h 0 v0) 1 v1).trans rfl
theorem set2_kept (w : World) (b : Nat) (v0 v1 : Value) : Kept (fun k => k = b) w ((w.setCell ⟨b, 0, none⟩ v0).setCell ⟨b, 1, none⟩ v1) :=
  (Kept.setCell (D := fun k => k = b) (p := ⟨b, 0, none⟩) w rfl v0).trans (Kept.setCell (D := fun k => k = b) (p := ⟨b, 1, none⟩) _ rfl v1)

set_option maxRecDepth 100000 in
set_option maxHeartbeats 4000000 in
theorem impl_AtmRun : AtmRunC := by
  intro a cap ms s pw ph cw ch who q qc l w hm hc hc' hs hl hq hq'
  have HM := Hid.intro hm
  have HS := Hid.intro hs
  have HL := Hid.intro hl
  have HMB := Hid.intro (fun W h1 h2 => mayBegin_any a cap ms s pw ph cw ch who W h1 hc hc' h2)
  have HAO := Hid.intro (fun W h => impl_allOk impl_ReqOk q qc l W h hq hq')
  have HOP := Hid.intro (fun W h1 h2 => deskOpen_any s pw ph cw ch W h1 h2)
  have HDO := Hid.intro (fun D H st r pd pl cd cl W h2 h3 hr h4 h5 h6 h7 h8 => do_any w a cap ms D H st who r pd pl cd cl W hm hc hc' h2 h3 hr h4 h5 h6 h7 h8)
  have HE := Hid.intro (run_eq ms s who (reqs l))
  have HLN : Hid ((reqs l).length = l.length) := Hid.intro (by simp [reqs])
  clear hm hs hl
  generalize hzz0 : runZ ms s who (reqs l) = z
  have HZZ := Hid.intro hzz0
  clear hzz0
  unfold stV
  unfold stV at HMB HOP
  go_enter Tryz.func11, Tryz.ntmps11
  go_wp2_with fail
  obtain ⟨W0, hW0⟩ : ∃ W0, ((w.alloc (.cells #[.slice pw s.words.length cw, .slice ph s.holds.length ch] 34)).alloc (.cells #[.slice none 0 0, .slice none 0 0] 34)) = W0 := ⟨_, rfl⟩
  have hb0 : Below w.heap.size w W0 := by rw [← hW0]; exact below_two _ _ _
  have h50 : W0.heap[w.heap.size]? = some (.cells #[.slice pw s.words.length cw, .slice ph s.holds.length ch] 34 (0, 0)) := by rw [← hW0]; exact two_at0 _ _ _
  have h80 : W0.heap[w.heap.size + 1]? = some (.cells #[.slice none 0 0, .slice none 0 0] 34 (0, 0)) := by rw [← hW0]; exact two_at1 _ _ _
  rw [hW0]
  clear hW0
  refine (HMB.out W0 (HM.out.below hb0) (HS.out.below hb0)).mono ?_
  rintro e w1 ⟨rfl, hb1⟩
  have h51 := (hb1.block _ (heap_lt h50)).trans h50
  have h81 := (hb1.block _ (heap_lt h80)).trans h80
  have hb1' := hb0.trans (hb1.mono hb0.size)
  clear hb1 hb0 h50 h80 HMB
  have RET : Hid (∀ W, Below w.heap.size w W → W.heap[w.heap.size + 1]? = some (.cells #[.slice none 0 0, .slice none 0 0] 34 (0, 0)) → runOkB ms s who (reqs l) = false →
      ∃ qw dw qh dh g gc ys, Value.tuple #[.agg #[.slice none 0 0, .slice none 0 0], .slice none 0 0] = .tuple #[.agg #[.slice qw z.1.words.length dw, .slice qh z.1.holds.length dh], .slice g ys.length gc] ∧ rsps ys = z.2 ∧ RunOut w.heap.size ((W.setCell ⟨w.heap.size + 1, 0, none⟩ (.slice none 0 0)).setCell ⟨w.heap.size + 1, 1, none⟩ (.slice none 0 0)) z.1 ys qw dw qh dh g gc ∧ Below w.heap.size w ((W.setCell ⟨w.heap.size + 1, 0, none⟩ (.slice none 0 0)).setCell ⟨w.heap.size + 1, 1, none⟩ (.slice none 0 0))) := by
    refine Hid.intro (fun W hb h8 hno => ?_)
    rw [← HZZ.out, run_no hno]
    refine ⟨none, 0, none, 0, none, 0, [], rfl, rfl, RunOut.none _, ?_⟩
    exact (hb.setCell (p := ⟨w.heap.size + 1, 0, none⟩) (by simp) _).setCell (p := ⟨w.heap.size + 1, 1, none⟩) (by simp) _
  cases hmb : (mapOkB ms && (stOkB s && inB who 0 2))
  · have HN := Hid.intro (RET.out w1 hb1' h81 (by rw [HE.out, hmb]; rfl))
    have f0 := heap_free h81 0
    have f1 := heap_free h81 1
    have r0 : w1.cell? ⟨w.heap.size + 1, 0, none⟩ = some (.slice none 0 0) := heap_cell h81 0
    have r1 : w1.cell? ⟨w.heap.size + 1, 1, none⟩ = some (.slice none 0 0) := heap_cell h81 1
    have p8 := set2 h81 (.slice none 0 0) (.slice none 0 0)
    have s0 := heap_cell p8 0
    have s1 := heap_cell p8 1
    simp at s0 s1
    clear p8 h81 RET
    go_wp2
    refine bodyPost_ret (v := .tuple #[.agg #[.slice none 0 0, .slice none 0 0], .slice none 0 0]) (by simp [results, Tryz.results11, go_sem, s0, s1]) rfl ?_
    obtain ⟨qw, dw, qh, dh, g, gc, ys, h1, h2, h3, h4⟩ := HN.out
    exact ⟨qw, dw, qh, dh, g, gc, ys, by rw [h1], h2, h3, h4⟩
  by_cases hln : 12 < l.length
  · have hI12 : (12 : Int) < (l.length : Int) := by omega
    have hd12 : decide ((reqs l).length ≤ 12) = false := by rw [HLN.out]; simp; omega
    have HN := Hid.intro (RET.out w1 hb1' h81 (by rw [HE.out, hd12]; simp))
    have f0 := heap_free h81 0
    have f1 := heap_free h81 1
    have r0 : w1.cell? ⟨w.heap.size + 1, 0, none⟩ = some (.slice none 0 0) := heap_cell h81 0
    have r1 : w1.cell? ⟨w.heap.size + 1, 1, none⟩ = some (.slice none 0 0) := heap_cell h81 1
    have p8 := set2 h81 (.slice none 0 0) (.slice none 0 0)
    have s0 := heap_cell p8 0
    have s1 := heap_cell p8 1
    simp at s0 s1
    clear p8 h81 RET
    go_wp2
    refine bodyPost_ret (v := .tuple #[.agg #[.slice none 0 0, .slice none 0 0], .slice none 0 0]) (by simp [results, Tryz.results11, go_sem, s0, s1]) rfl ?_
    obtain ⟨qw, dw, qh, dh, g, gc, ys, h1, h2, h3, h4⟩ := HN.out
    exact ⟨qw, dw, qh, dh, g, gc, ys, by rw [h1], h2, h3, h4⟩
  have hI12 : ¬ (12 : Int) < (l.length : Int) := by omega
  have hd12 : decide ((reqs l).length ≤ 12) = true := by rw [HLN.out]; simp; omega
  go_wp2_with fail
  refine (HAO.out w1 (HL.out.below hb1')).mono ?_
  rintro e w2 ⟨rfl, hb2⟩
  have h52 := (hb2.block _ (heap_lt h51)).trans h51
  have h82 := (hb2.block _ (heap_lt h81)).trans h81
  have hb2' := hb1'.trans (hb2.mono hb1'.size)
  clear hb2 hb1' h51 h81 HAO
  cases hpk : progOkB (reqs l)
  · have HN := Hid.intro (RET.out w2 hb2' h82 (by rw [HE.out, hpk]; simp))
    have f0 := heap_free h82 0
    have f1 := heap_free h82 1
    have r0 : w2.cell? ⟨w.heap.size + 1, 0, none⟩ = some (.slice none 0 0) := heap_cell h82 0
    have r1 : w2.cell? ⟨w.heap.size + 1, 1, none⟩ = some (.slice none 0 0) := heap_cell h82 1
    have p8 := set2 h82 (.slice none 0 0) (.slice none 0 0)
    have s0 := heap_cell p8 0
    have s1 := heap_cell p8 1
    simp at s0 s1
    clear p8 h82 RET
    go_wp2
    refine bodyPost_ret (v := .tuple #[.agg #[.slice none 0 0, .slice none 0 0], .slice none 0 0]) (by simp [results, Tryz.results11, go_sem, s0, s1]) rfl ?_
    obtain ⟨qw, dw, qh, dh, g, gc, ys, h1, h2, h3, h4⟩ := HN.out
    exact ⟨qw, dw, qh, dh, g, gc, ys, by rw [h1], h2, h3, h4⟩
  have HOK : Hid (runOkB ms s who (reqs l) = true) := Hid.intro (by rw [HE.out, hmb, hd12, hpk]; rfl)
  obtain ⟨hmo, hst, hwo, _, _⟩ := run_parts HOK.out
  have hwho : 0 ≤ who ∧ who ≤ 2 := by simpa [inB] using hwo
  have HPK := Hid.intro hpk
  have HST := Hid.intro hst
  clear hmb hd12 hpk RET HE hst hwo
  have c0 : w2.cell? ⟨w.heap.size, 0, none⟩ = some (.slice pw s.words.length cw) := heap_cell h52 0
  have c1 : w2.cell? ⟨w.heap.size, 1, none⟩ = some (.slice ph s.holds.length ch) := heap_cell h52 1
  go_wp2_with fail
  refine (HOP.out w2 (HS.out.below hb2') HST.out).mono ?_
  rintro e w3 ⟨D, H, rfl, hD3, hDg, hHg, hb3⟩
  have hs2 := hb2'.size
  have h83 := (hb3.block _ (heap_lt h82)).trans h82
  have hl82 := heap_lt h82
  have hb3' := hb2'.trans (hb3.mono hb2'.size)
  have hDl := hD3.ltD
  have hHl := hD3.ltH
  have hs3 := hb3'.size
  have hmk := make_rsps l.length (by omega)
  clear hb3 hb2' h52 h82 HOP c0 c1
  have HINV : Hid (∀ W, W = w3.alloc (.cells (madeCells #[.int .i64 0, .int .i64 0, .slice none 0 0] (l.length * 3)) 63) → RunInv w W.heap.size D H (w.heap.size + 1) ms who s l 0 [] w3.heap.size l.length W) := by
    refine Hid.intro (fun W hW => ?_)
    subst hW
    have hg := below_nw w3 (.cells (madeCells #[.int .i64 0, .int .i64 0, .slice none 0 0] (l.length * 3)) 63)
    refine ⟨hb3'.trans (hg.mono hs3), hg.cells h83, hD3.gr hg, rfl, rfl, cap_rsps, by unfold maxLen; omega, DataOk.nil _ _, by omega, by simp; omega, by simp; omega, by simp; omega, by omega, by omega, by omega, Nat.le_refl _, by omega, by omega, by omega, by omega, by omega⟩
  clear h83 hD3
  go_wp2_with fail
  generalize hW3 : w3.alloc (.cells (madeCells #[.int .i64 0, .int .i64 0, .slice none 0 0] (l.length * 3)) 63) = W3
  have HI0 := HINV.out W3 hW3.symm
  have hDne : D ≠ w.heap.size + 1 := HI0.DR
  generalize hM : W3.heap.size = M at HI0
  clear hmk hW3 HINV hb3' hDl hHl hDg hHg hs3 hM hl82 hs2
  generalize w3.heap.size = g0 at HI0 ⊢
  go_loopw [37, 11] (fun i t wr => ∃ (k : Nat) (ys : List Rs) (g cp : Nat), k ≤ l.length ∧ i = .int .i64 k ∧ t = .slice (some ⟨g, 0, none⟩) k cp ∧ Hid (RunInv w M D H (w.heap.size + 1) ms who s l k ys g cp wr)) (fun i _ _ => l.length - (intOf i).toNat)
  case atStart => exact ⟨0, [], g0, l.length, Nat.zero_le _, rfl, rfl, Hid.intro HI0⟩
  case round =>
    obtain ⟨k, ys, g, cp, hk, rfl, rfl, HV⟩ := hrel
    clear HI0
    by_cases hlt : k < l.length
    · have hp := HL.out.below HV.out.bel
      have HQ := Hid.intro (HL.out.ats _ (List.getElem_mem hlt))
      rcases hp.row with hx | ⟨b, off, rfl, hb, hcells⟩
      · subst hx; simp at hlt
      have hk0 : (0 : Int) ≤ (k : Int) := by omega
      have hk1 : (k : Int) < (l.length : Int) := by omega
      obtain ⟨c0, c1, c2, c3, c4, c5, c6⟩ := hcells k hlt
      have hb1 := below_nw wr (.cells #[.int .i64 l[k].r.id, .int .i64 l[k].r.kind, .int .i64 l[k].r.addr, .int .i64 l[k].r.many, .bool l[k].r.wrap, .slice l[k].pd l[k].r.data.length l[k].cd, .slice l[k].pl l[k].r.lanes.length l[k].cl] 66)
      have HB1 := Hid.intro hb1
      have HV1 := Hid.intro (HV.out.below hb1)
      have HC := Hid.intro (HDO.out D H (runSt ms who s (reqs (l.take k))) l[k].r l[k].pd l[k].pl l[k].cd l[k].cl _ HV1.out.desk HV1.out.bel HQ.out HV.out.D0 HV.out.H0 hmo (prog_at hlt HPK.out) hwho)
      unfold reqV at HC
      have HK1 := Hid.intro (And.intro HV.out.cap1 HV.out.len)
      generalize hx : (atmDo ms (runSt ms who s (reqs (l.take k))) who l[k].r).2 = x at HC
      have HX := Hid.intro hx
      clear hx hcells hp hb1
      go_wp2_with fail
      refine HC.out.mono ?_
      rintro e w5 ⟨p, c, rfl, hO, hc1, hc2, hd, hkp⟩
      unfold rspV
      have HO := Hid.intro (And.intro hO (And.intro hc1 (And.intro hc2 (And.intro hd hkp))))
      have hgr := below_nw w5 (.cells #[.int .i64 x.id, .int .i64 x.code, .slice p x.data.length c] 63)
      have hrow5 : ORow 63 3 w5 g cp k (rsCells ys) := by
        have h := HV1.out
        exact h.row.of (hkp.block g h.row.lt (by have := h.gD; have := h.gH; omega))
      have hrow6 := Hid.intro (hrow5.of (hgr.block _ hrow5.lt))
      have HB6 := Hid.intro hgr
      have hYc := Hid.intro (show (w5.alloc (.cells #[.int .i64 x.id, .int .i64 x.code, .slice p x.data.length c] 63)).heap[w5.heap.size]? = some (.cells #[.int .i64 x.id, .int .i64 x.code, .slice p x.data.length c] 63 (0, 0)) from nw_at _ rfl)
      clear HC hO hc1 hc2 hd hkp hgr hrow5 c0 c1 c2 c3 c4 c5 c6
      go_wp2_with (at_builtin; refine wpList_appR ys ⟨x, p, c⟩ rfl rfl rfl HK1.out.2.symm hrow6.out HK1.out.1 rfl hYc.out (by omega) ?_; intro g' cp' w6 hr6 hcp6 hg6 hG6; have HR6 := Hid.intro (And.intro hr6 (And.intro hcp6 (And.intro hg6 hG6))); clear hr6 hcp6 hg6 hG6 hrow6 hYc)
      go_roundw
      case rel =>
        obtain ⟨o1, o2, o3, o4, o5⟩ := HO.out
        obtain ⟨r1, r2, r3, r4⟩ := HR6.out
        exact ⟨k + 1, ys ++ [⟨x, p, c⟩], g', cp', by omega, by go_num, rfl, Hid.intro (HV.out.step hlt HB1.out x HX.out.symm o1 o2 o3 o4 o5 HB6.out r1 r2 r3 r4)⟩
      case measure => simp [intOf]; omega
    · have hkl : k = l.length := by omega
      subst hkl
      have hkn : ¬ ((l.length : Int) < (l.length : Int)) := by omega
      have HSV := Hid.intro (state_any D H _ wr HV.out.desk)
      go_wp2_with fail
      refine HSV.out.mono ?_
      rintro e w7 ⟨h1, h2, rfl, o1, o2, m1, m2, hne, hb7⟩
      have HV7 := Hid.intro (HV.out.below hb7)
      have h87 := HV7.out.r8
      have f0 := heap_free h87 0
      have f1 := heap_free h87 1
      have r0 : w7.cell? ⟨w.heap.size + 1, 0, none⟩ = some (.slice none 0 0) := heap_cell h87 0
      have r1 : w7.cell? ⟨w.heap.size + 1, 1, none⟩ = some (.slice none 0 0) := heap_cell h87 1
      have p8 := set2 h87 (.slice (some ⟨h1, 0, none⟩) 64 64) (.slice (some ⟨h2, 0, none⟩) 6 6)
      have s0 := heap_cell p8 0
      have s1 := heap_cell p8 1
      simp at s0 s1
      have HO1 := Hid.intro (And.intro o1 (And.intro o2 (And.intro m1 (And.intro m2 hne))))
      have HB7 := Hid.intro hb7
      clear p8 h87 o1 o2 m1 m2 hne hb7 HSV
      go_wp2
      refine bodyPost_ret (v := .tuple #[.agg #[.slice (some ⟨h1, 0, none⟩) 64 64, .slice (some ⟨h2, 0, none⟩) 6 6], .slice (some ⟨g, 0, none⟩) l.length cp]) (by simp [results, Tryz.results11, go_sem, s0, s1]) rfl ?_
      obtain ⟨o1, o2, m1, m2, hne⟩ := HO1.out
      have hv := HV7.out
      have hz : z = (runSt ms who s (reqs l), runRs ms who s (reqs l)) := by rw [← HZZ.out, run_yes HOK.out]
      have htk : l.take l.length = l := List.take_length
      have htold := hv.told
      have hwl := hv.desk.wl
      have hhl := hv.desk.hl
      rw [htk] at htold hwl hhl o1 o2
      have hkp := set2_kept w7 (w.heap.size + 1) (.slice (some ⟨h1, 0, none⟩) 64 64) (.slice (some ⟨h2, 0, none⟩) 6 6)
      have hM8 := hv.M8
      have hML := HV.out.ML
      have hML7 := hv.ML
      have hsz := HB7.out.size
      have hlen := hv.len
      have hcp := hv.cap1
      have hrc := hv.row
      have hgR := hv.gR
      have hb0 := hv.bel.size
      have hszw := HV.out.bel.size
      refine ⟨some ⟨h1, 0, none⟩, 64, some ⟨h2, 0, none⟩, 6, some ⟨g, 0, none⟩, cp, ys, ?_, ?_, ?_, ?_⟩
      · rw [hz, hwl, hhl, hlen]
      · rw [hz]; exact htold
      · rw [hz]
        have hdat : DataOk M _ ys := hv.data.of (w' := (w7.setCell ⟨w.heap.size + 1, 0, none⟩ (.slice (some ⟨h1, 0, none⟩) 64 64)).setCell ⟨w.heap.size + 1, 1, none⟩ (.slice (some ⟨h2, 0, none⟩) 6 6)) (fun b cp n cs hMb hOb => hkp.block b hOb.lt (by omega))
        have hap : ∀ (h : Nat) (l : List Int), wr.heap.size ≤ h → ∀ y ∈ ys, Apart (some ⟨h, 0, none⟩) l y.p y.x.data := fun h l hh y hy => by
          by_cases h0 : y.x.data = []
          · exact .inr (.inl h0)
          · exact .inr (.inr (fun e => by have := HV.out.data.lt y hy h h0 e.symm; omega))
        refine ⟨.inr ⟨h1, rfl, by omega, ?_⟩, .inr ⟨h2, rfl, by omega, ?_⟩, by simp [hwl], by omega, by simp [hhl], by omega, .inr (.inr (fun e => hne (by cases e; rfl))), hdat.mono (by omega), hap h1 _ m1, hap h2 _ m2, .inr ⟨g, rfl, hv.gM, ?_⟩, by have := hrc; obtain ⟨_, _, _, h, _⟩ := this; omega, by unfold maxLen at hcp; omega⟩
        · simp only [hwl]; exact o1.of (hkp.block _ o1.lt (by omega))
        · simp only [hhl]; exact o2.of (hkp.block _ o2.lt (by omega))
        · rw [hlen]; exact hrc.of (hkp.block _ hrc.lt hgR)
      · exact hv.bel.trans ⟨hkp.os, hkp.tape, hkp.output, hkp.size, fun b hb => hkp.block b (by omega) (by omega)⟩

end Go.Proofs.YtpamjkkghghggaaGreat
