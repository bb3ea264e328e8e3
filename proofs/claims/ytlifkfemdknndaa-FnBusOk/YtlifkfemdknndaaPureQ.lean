/-
  Plain mathematics of chapter 3 (what is asked): no Go in sight.
-/
import Derived.Test.YtlifkfemdknndaaPure
namespace Go.Proofs.Ytlifkfemdknndaa

/-- what is asked -/
structure Req where
  id : Int
  kind : Int
  addr : Int
  many : Int
  wrap : Bool
  data : List Int
  lanes : List Int
/-- what comes of it -/
structure Rsp where
  id : Int
  code : Int
  data : List Int

def allIn (l : List Int) (lo hi : Int) : Bool := l.all (fun n => inB n lo hi)
def writesB (r : Req) : Bool := decide (r.kind = 2 ∨ r.kind = 4)
/-- ReqOk, in its parts -/
def reqHeadB (r : Req) : Bool := inB r.id 0 1 && (inB r.kind 1 4 && adrOkB r.addr r.many r.wrap)
def reqOneB (r : Req) : Bool := decide (r.kind < 3 ∨ r.many = 1)
def reqNoneB (r : Req) : Bool := decide (r.data.length = 0) && decide (r.lanes.length = 0)
def reqWordsB (r : Req) : Bool := decide ((r.data.length : Int) = r.many) && (decide ((r.lanes.length : Int) = r.many) && (allIn r.data 0 65535 && allIn r.lanes 0 3))
def reqOkB (r : Req) : Bool := reqHeadB r && (reqOneB r && (if writesB r then reqWordsB r else reqNoneB r))
def rspOkB (r : Rsp) : Bool := inB r.id 0 1 && (inB r.code 1 4 && (decide (r.data.length ≤ 4) && allIn r.data 0 65535))

theorem allIn_hit {l : List Int} {lo hi : Int} {k : Nat} (h : k < l.length) (hb : inB l[k] lo hi = false) : allIn l lo hi = false :=
  List.all_eq_false.2 ⟨l[k], List.getElem_mem h, by simp [hb]⟩
theorem allIn_step {l : List Int} {lo hi : Int} {k : Nat} (h : k < l.length) (ha : allIn (l.take k) lo hi = true) (hb : inB l[k] lo hi = true) : allIn (l.take (k + 1)) lo hi = true := by
  unfold allIn at *
  rw [List.take_succ_eq_append_getElem h, List.all_append, ha]; simp [hb]
theorem allIn_end {l : List Int} {lo hi : Int} {k : Nat} (hk : l.length ≤ k) (ha : allIn (l.take k) lo hi = true) : allIn l lo hi = true := by
  rwa [List.take_of_length_le hk] at ha

/-- l1Whole: in which range all are; -1, if they are not all of one -/
def wholeZ (ms : List Rng) : List Int → Int
  | [] => -1
  | a :: l => if l.all (fun x => findAt ms x 0 == findAt ms a 0) then findAt ms a 0 else -1
/-- whose range it is -/
def slaveAt (ms : List Rng) (k : Int) : Int := if k < 0 then 3 else match ms[k.toNat]? with
  | some r => r.sl
  | none => 3
end Go.Proofs.Ytlifkfemdknndaa
