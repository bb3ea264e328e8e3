/-
  BusApart, as a Lean function.
-/
import Derived.Test.YtgjlkmhbaimjpaaBusK
namespace Go.Proofs.Ytgjlkmhbaimjpaa
open Go.RowKit
set_option linter.unusedSimpArgs false
set_option linter.unusedVariables false

theorem all_step {α : Type} {p : α → Bool} {l : List α} {k : Nat} (hk : k < l.length) (h : (l.take k).all p = true) (h' : p l[k] = true) : (l.take (k + 1)).all p = true := by
  rw [List.take_succ_eq_append_getElem hk, List.all_append, h]; simp [h']
theorem all_hit {α : Type} {p : α → Bool} {l : List α} {k : Nat} (hk : k < l.length) (h' : p l[k] = false) : l.all p = false := List.all_eq_false.2 ⟨l[k], List.getElem_mem hk, by simp [h']⟩
theorem all_end {α : Type} {p : α → Bool} {l : List α} {k : Nat} (hk : l.length ≤ k) (h : (l.take k).all p = true) : l.all p = true := by rwa [List.take_of_length_le hk] at h

/-- the stores of which the k-th asks -/
def slvs (z : ((List (Int × Int × Int × Bool)) × (List Int) × (List (List (Int × Int × Int × Int × Bool × (List Int) × (List Int)))))) (k : Nat) : List Int := ((z.2.2.getD k []).map reqOf).map (reqSlaveZ (z.1.map rngOf))
def apartK (z : ((List (Int × Int × Int × Bool)) × (List Int) × (List (List (Int × Int × Int × Int × Bool × (List Int) × (List Int)))))) (n : Nat) (k : Nat) : Bool := k == n || (slvs z k).all (fun x => (slvs z n).all (fun y => !(x == y)))
def apartB (z : ((List (Int × Int × Int × Bool)) × (List Int) × (List (List (Int × Int × Int × Int × Bool × (List Int) × (List Int)))))) (n : Nat) : Bool := [0, 1, 2].all (apartK z n)
def busApartP (z : ((List (Int × Int × Int × Bool)) × (List Int) × (List (List (Int × Int × Int × Int × Bool × (List Int) × (List Int)))))) (who : Int) : Bool := busOkP z && (inB who 0 2 && apartB z who.toNat)

/-- what one of a bus that is ok asks -/
theorem progs_three {z : ((List (Int × Int × Int × Bool)) × (List Int) × (List (List (Int × Int × Int × Int × Bool × (List Int) × (List Int)))))} (h : busOkP z = true) : z.2.2.length = 3 := by
  unfold busOkP at h
  simp only [Bool.and_eq_true, decide_eq_true_eq] at h
  exact h.2.2.2.1
theorem slv_kinds {F : Nat} (hF : ∀ (a : Option Addr) (cap : Nat) (ms : List Rng) (r : Req) (pd pl : Option Addr) (cd cl : Nat) (w : World), RowOf w a ms → ms.length ≤ cap → cap ≤ 9223372036854775807 → ReqAt w r pd cd pl cl → Calls Try.prog F #[.slice a ms.length cap, reqV r pd cd pl cl] w fun e w' => e = .returned (.int .i64 (reqSlaveZ ms r)) ∧ Below w.heap.size w w')
    (m : (Lst (Int × Int × Int × Bool))) (q : (Int × Int × Int × Int × Bool × (Lst Int) × (Lst Int))) (W : World) (h1 : yMapRangeS.rd W m) (h2 : yReqReq.rd W q) :
    Calls Try.prog F #[.slice m.p m.l.length m.c, .agg #[.int .i64 q.1, .int .i64 q.2.1, .int .i64 q.2.2.1, .int .i64 q.2.2.2.1, .bool q.2.2.2.2.1, .slice q.2.2.2.2.2.1.p q.2.2.2.2.2.1.l.length q.2.2.2.2.2.1.c, .slice q.2.2.2.2.2.2.p q.2.2.2.2.2.2.l.length q.2.2.2.2.2.2.c]] W fun e w' => e = .returned (.int .i64 (reqSlaveZ ((yMapRangeS.pl m).map rngOf) (reqOf (yReqReq.pl q)))) ∧ Below W.heap.size W w' := by
  have h := hF m.p m.c (m.l.map rngOf) (reqOf (yReqReq.pl q)) q.2.2.2.2.2.1.p q.2.2.2.2.2.2.p q.2.2.2.2.2.1.c q.2.2.2.2.2.2.c W (rngs_rd h1) (by simpa using h1.1) h1.2.1 (by
    obtain ⟨_, _, _, _, _, g1, g2⟩ := h2
    obtain ⟨a1, a2, a3⟩ := yI_rd.1 g1
    obtain ⟨b1, b2, b3⟩ := yI_rd.1 g2
    have e : yReqReq.pl q = (q.1, q.2.1, q.2.2.1, q.2.2.2.1, q.2.2.2.2.1, yI.pl q.2.2.2.2.2.1, yI.pl q.2.2.2.2.2.2) := rfl
    rw [e, yI_pl, yI_pl]
    exact ⟨a3, b3, a1, a2, b1, b2⟩)
  rw [rngs_pl]
  have e : yReqReq.pl q = (q.1, q.2.1, q.2.2.1, q.2.2.2.1, q.2.2.2.2.1, yI.pl q.2.2.2.2.2.1, yI.pl q.2.2.2.2.2.2) := rfl
  rw [e, yI_pl, yI_pl] at h ⊢
  simp only [List.length_map] at h
  exact h

end Go.Proofs.Ytgjlkmhbaimjpaa
