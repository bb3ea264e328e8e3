/-
  What is asked, one behind the other: rows of what is asked, and of what came of it, and whether all of some may be asked.
-/
import Derived.Test.YtlifkfemdknndaaPairWM
import Derived.Test.YtlifkfemdknndaaSpcDM
import Derived.Test.YtlifkfemdknndaaReqS
import Derived.Test.YtlifkfemdknndaaImplUM
import Derived.Test.YtlifkfemdknndaaPInt
namespace Go.Proofs.Ytlifkfemdknndaa
open Go.RowKit
set_option linter.unusedSimpArgs false
set_option linter.unusedVariables false

/-- what is asked, and where its words and lanes lie -/
structure Rq where
  r : Req
  pd : Option Addr
  cd : Nat
  pl : Option Addr
  cl : Nat
/-- what came of something, and where its words lie -/
structure Rs where
  x : Rsp
  p : Option Addr
  c : Nat
def Rq.val (q : Rq) : Value := reqV q.r q.pd q.cd q.pl q.cl
def Rs.val (y : Rs) : Value := rspV y.x y.p y.c
def Rs.cells (y : Rs) : List Value := [.int .i64 y.x.id, .int .i64 y.x.code, .slice y.p y.x.data.length y.c]
def rsCells (l : List Rs) : List Value := l.flatMap Rs.cells
def reqs (l : List Rq) : List Req := l.map Rq.r
def rsps (l : List Rs) : List Rsp := l.map Rs.x
def progOkB (l : List Req) : Bool := l.all reqOkB

/-- a row of what is asked in memory -/
structure RqsAt (w : World) (p : Option Addr) (l : List Rq) : Prop where
  row : l = [] ∨ ∃ b off, p = some ⟨b, off, none⟩ ∧ b < w.heap.size ∧ ∀ k (h : k < l.length),
    w.cell? ⟨b, off + k * 7, none⟩ = some (.int .i64 l[k].r.id) ∧ w.cell? ⟨b, off + k * 7 + 1, none⟩ = some (.int .i64 l[k].r.kind) ∧
    w.cell? ⟨b, off + k * 7 + 2, none⟩ = some (.int .i64 l[k].r.addr) ∧ w.cell? ⟨b, off + k * 7 + 3, none⟩ = some (.int .i64 l[k].r.many) ∧
    w.cell? ⟨b, off + k * 7 + 4, none⟩ = some (.bool l[k].r.wrap) ∧ w.cell? ⟨b, off + k * 7 + 5, none⟩ = some (.slice l[k].pd l[k].r.data.length l[k].cd) ∧
    w.cell? ⟨b, off + k * 7 + 6, none⟩ = some (.slice l[k].pl l[k].r.lanes.length l[k].cl)
  ats : ∀ q ∈ l, ReqAt w q.r q.pd q.cd q.pl q.cl
theorem RqsAt.below {w w' : World} {p : Option Addr} {l : List Rq} (h : RqsAt w p l) (hb : Below w.heap.size w w') : RqsAt w' p l := by
  refine ⟨?_, fun q hq => (h.ats q hq).below hb⟩
  rcases h.row with h | ⟨b, off, h1, h2, h3⟩
  · exact .inl h
  · refine .inr ⟨b, off, h1, Nat.lt_of_lt_of_le h2 hb.size, fun k hk => ?_⟩
    obtain ⟨g0, g1, g2, g3, g4, g5, g6⟩ := h3 k hk
    exact ⟨(hb.cell (p := ⟨b, _, none⟩) h2).trans g0, (hb.cell (p := ⟨b, _, none⟩) h2).trans g1, (hb.cell (p := ⟨b, _, none⟩) h2).trans g2, (hb.cell (p := ⟨b, _, none⟩) h2).trans g3, (hb.cell (p := ⟨b, _, none⟩) h2).trans g4, (hb.cell (p := ⟨b, _, none⟩) h2).trans g5, (hb.cell (p := ⟨b, _, none⟩) h2).trans g6⟩

theorem prog_hit {l : List Rq} {k : Nat} (hk : k < l.length) (h : reqOkB l[k].r = false) : progOkB (reqs l) = false :=
  List.all_eq_false.2 ⟨l[k].r, List.mem_map.2 ⟨l[k], List.getElem_mem hk, rfl⟩, by simp [h]⟩
theorem prog_step {l : List Rq} {k : Nat} (hk : k < l.length) (h : progOkB (reqs (l.take k)) = true) (h' : reqOkB l[k].r = true) : progOkB (reqs (l.take (k + 1))) = true := by
  rw [List.take_add_one]
  simp only [progOkB, reqs, List.map_append, List.all_append, Bool.and_eq_true] at h ⊢
  exact ⟨h, by simp [hk, h']⟩
theorem prog_end {l : List Rq} {k : Nat} (hk : l.length ≤ k) (h : progOkB (reqs (l.take k)) = true) : progOkB (reqs l) = true := by
  rwa [List.take_of_length_le hk] at h

set_option maxRecDepth 100000 in
set_option maxHeartbeats 2000000 in
theorem spec_l4Prog (p : Option Addr) (cap : Nat) (l : List Rq) (w : World) (h : RqsAt w p l) (hc : l.length ≤ cap) (hm : cap ≤ 9223372036854775807) :
    Calls Try.prog 35 #[.slice p l.length cap] w fun e w' => e = .returned (.bool (progOkB (reqs l))) ∧ Below w.heap.size w w' := by
  have HP := Hid.intro h
  clear h
  go_enter Try.func35, Try.ntmps35
  go_wp2
  go_loopw [3] (fun i wr => ∃ k : Nat, k ≤ l.length ∧ i = .int .i64 k ∧ Below w.heap.size w wr ∧ Hid (progOkB (reqs (l.take k)) = true)) (fun i _ => l.length - (intOf i).toNat)
  case atStart => exact ⟨0, Nat.zero_le _, rfl, Below.refl _ _, Hid.intro rfl⟩
  case round =>
    obtain ⟨k, hk, rfl, hbl, HF⟩ := hrel
    by_cases hlt : k < l.length
    · have hp := HP.out.below hbl
      have HQ := Hid.intro (hp.ats _ (List.getElem_mem hlt))
      rcases hp.row with hx | ⟨b, off, rfl, hb, hcells⟩
      · subst hx; simp at hlt
      have hk0 : (0 : Int) ≤ (k : Int) := by omega
      have hk1 : (k : Int) < (l.length : Int) := by omega
      obtain ⟨c0, c1, c2, c3, c4, c5, c6⟩ := hcells k hlt
      have HC := Hid.intro (spec_ReqOk l[k].r l[k].pd l[k].pl l[k].cd l[k].cl wr HQ.out)
      unfold reqV at HC
      clear hcells HP HQ hp
      go_wp2_with fail
      refine HC.out.mono ?_
      rintro e w1 ⟨rfl, hb1⟩
      have hbl1 := hbl.trans (hb1.mono hbl.size)
      clear HC hb1 c0 c1 c2 c3 c4 c5 c6 hbl
      cases hq : reqOkB l[k].r
      · have HN := Hid.intro (prog_hit hlt hq)
        go_wp2
        go_ret
        exact ⟨by rw [HN.out]; rfl, hbl1⟩
      · have HN := Hid.intro (prog_step hlt HF.out hq)
        go_wp2
        go_roundw
        case rel => exact ⟨k + 1, by omega, by go_num, hbl1, HN⟩
        case measure => simp [intOf]; omega
    · have HN := Hid.intro (prog_end (show l.length ≤ k by omega) HF.out)
      go_wp2
      go_ret
      exact ⟨by rw [HN.out]; rfl, hbl⟩

set_option maxRecDepth 100000 in
set_option maxHeartbeats 2000000 in
theorem impl_allOk (hI : ReqOkC) (p : Option Addr) (cap : Nat) (l : List Rq) (w : World) (h : RqsAt w p l) (hc : l.length ≤ cap) (hm : cap ≤ 9223372036854775807) :
    Calls Try.prog 68 #[.slice p l.length cap] w fun e w' => e = .returned (.bool (progOkB (reqs l))) ∧ Below w.heap.size w w' := by
  have HP := Hid.intro h
  have HI := Hid.intro hI
  clear h hI
  go_enter Try.func68, Try.ntmps68
  go_wp2
  go_loopw [7] (fun i wr => ∃ k : Nat, k ≤ l.length ∧ i = .int .i64 k ∧ Below w.heap.size w wr ∧ Hid (progOkB (reqs (l.take k)) = true)) (fun i _ => l.length - (intOf i).toNat)
  case atStart => exact ⟨0, Nat.zero_le _, rfl, Below.refl _ _, Hid.intro rfl⟩
  case round =>
    obtain ⟨k, hk, rfl, hbl, HF⟩ := hrel
    by_cases hlt : k < l.length
    · have hp := HP.out.below hbl
      have HQ := Hid.intro (hp.ats _ (List.getElem_mem hlt))
      rcases hp.row with hx | ⟨b, off, rfl, hb, hcells⟩
      · subst hx; simp at hlt
      have hk0 : (0 : Int) ≤ (k : Int) := by omega
      have hk1 : (k : Int) < (l.length : Int) := by omega
      obtain ⟨c0, c1, c2, c3, c4, c5, c6⟩ := hcells k hlt
      have HC := Hid.intro (HI.out l[k].r l[k].pd l[k].pl l[k].cd l[k].cl)
      unfold reqV at HC
      have hs := hbl.size
      clear hcells HP hp HI
      go_wp2_with fail
      refine (HC.out _ (HQ.out.below (below_nw _ _))).mono ?_
      rintro e w1 ⟨rfl, hb1⟩
      have hbl1 := (hbl.trans ((below_nw wr _).mono hs)).trans (hb1.mono (by simp; omega))
      clear HC HQ hb1 c0 c1 c2 c3 c4 c5 c6 hbl
      cases hq : reqOkB l[k].r
      · have HN := Hid.intro (prog_hit hlt hq)
        go_wp2
        go_ret
        exact ⟨by rw [HN.out]; rfl, hbl1⟩
      · have HN := Hid.intro (prog_step hlt HF.out hq)
        go_wp2
        go_roundw
        case rel => exact ⟨k + 1, by omega, by go_num, hbl1, HN⟩
        case measure => simp [intOf]; omega
    · have HN := Hid.intro (prog_end (show l.length ≤ k by omega) HF.out)
      go_wp2
      go_ret
      exact ⟨by rw [HN.out]; rfl, hbl⟩

end Go.Proofs.Ytlifkfemdknndaa
