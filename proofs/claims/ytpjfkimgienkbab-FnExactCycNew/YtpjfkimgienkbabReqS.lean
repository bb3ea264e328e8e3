/-
  RspOk and ReqSlave of the model.
-/
import Derived.Test.YtpjfkimgienkbabProg
import Derived.Test.YtpjfkimgienkbabPureQ
import Derived.Test.YtpjfkimgienkbabReq
import Derived.Test.YtpjfkimgienkbabMapCM
namespace Go.Proofs.Ytpjfkimgienkbab
open Go.RowKit
set_option linter.unusedSimpArgs false
set_option linter.unusedVariables false

/-- the value of what comes of something -/
def rspV (r : Rsp) (p : Option Addr) (c : Nat) : Value := .agg #[.int .i64 r.id, .int .i64 r.code, .slice p r.data.length c]
structure RspAt (w : World) (r : Rsp) (p : Option Addr) (c : Nat) : Prop where
  data : IntsAt w p r.data
  c1 : r.data.length ≤ c
  c2 : c ≤ 9223372036854775807
theorem RspAt.below {w w' : World} {r : Rsp} {p : Option Addr} {c : Nat} (h : RspAt w r p c) (hb : Below w.heap.size w w') : RspAt w' r p c := ⟨h.data.below hb, h.c1, h.c2⟩

theorem rspOk_eq (r : Rsp) : rspOkB r = (inB r.id 0 1 && (inB r.code 1 4 && (decide ((r.data.length : Int) ≤ 4) && allIn r.data 0 65535))) := by
  unfold rspOkB
  rw [show decide (r.data.length ≤ 4) = decide ((r.data.length : Int) ≤ 4) by rw [decide_eq_decide]; omega]

theorem whole_hit {ms : List Rng} {a : Int} {l : List Int} {j : Nat} (hj : j < l.length) (h : (findAt ms l[j] 0 == findAt ms a 0) = false) : wholeZ ms (a :: l) = -1 := by
  have : l.all (fun x => findAt ms x 0 == findAt ms a 0) = false := List.all_eq_false.2 ⟨l[j], List.getElem_mem hj, by simp [h]⟩
  simp [wholeZ, this]
theorem whole_all {ms : List Rng} {a : Int} {l : List Int} {k : Nat} (hk : l.length ≤ k) (h : (l.take k).all (fun x => findAt ms x 0 == findAt ms a 0) = true) : wholeZ ms (a :: l) = findAt ms a 0 := by
  rw [List.take_of_length_le hk] at h
  simp only [wholeZ, h, if_true]
theorem whole_step {ms : List Rng} {a : Int} {l : List Int} {k : Nat} (hk : k < l.length) (h : (l.take k).all (fun x => findAt ms x 0 == findAt ms a 0) = true) (h' : (findAt ms l[k] 0 == findAt ms a 0) = true) : (l.take (k + 1)).all (fun x => findAt ms x 0 == findAt ms a 0) = true := by
  rw [List.take_succ_eq_append_getElem hk, List.all_append, h]; simpa using h'

theorem whole_range (ms : List Rng) (xs : List Int) : wholeZ ms xs = -1 ∨ ∃ k, ∃ h : k < ms.length, wholeZ ms xs = (k : Int) := by
  cases xs with
  | nil => exact .inl rfl
  | cons a l =>
    simp only [wholeZ]
    by_cases hall : (l.all fun x => findAt ms x 0 == findAt ms a 0) = true
    · rw [if_pos hall]
      rcases findAt_spec a ms 0 with ⟨h, _⟩ | ⟨i, hi, h, _⟩
      · exact .inl h
      · exact .inr ⟨i, hi, by simpa using h⟩
    · rw [if_neg hall]
      exact .inl rfl
/-- ReqSlave -/
def reqSlaveZ (ms : List Rng) (r : Req) : Int := if mapOkB ms && reqOkB r then slaveAt ms (wholeZ ms (burst r.addr r.many r.wrap)) else -1
theorem slave_no {ms : List Rng} {r : Req} (h : mapOkB ms = false ∨ reqOkB r = false) : reqSlaveZ ms r = -1 := by
  rcases h with h | h <;> simp [reqSlaveZ, h]
theorem slave_none {ms : List Rng} {r : Req} (h1 : mapOkB ms = true) (h2 : reqOkB r = true) (h : wholeZ ms (burst r.addr r.many r.wrap) = -1) : reqSlaveZ ms r = 3 := by
  simp [reqSlaveZ, h1, h2, h, slaveAt]
theorem slave_at {ms : List Rng} {r : Req} (h1 : mapOkB ms = true) (h2 : reqOkB r = true) {k : Nat} (hk : k < ms.length) (h : wholeZ ms (burst r.addr r.many r.wrap) = (k : Int)) : reqSlaveZ ms r = ms[k].sl := by
  have h0 : ¬ ((k : Int) < 0) := by omega
  simp [reqSlaveZ, h1, h2, h, slaveAt, h0, hk]

end Go.Proofs.Ytpjfkimgienkbab
