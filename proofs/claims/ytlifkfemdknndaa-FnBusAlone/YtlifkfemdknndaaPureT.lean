/-
  One thing at once, as Lean functions, and its values in memory.
-/
import Derived.Test.YtlifkfemdknndaaToIntsM
import Derived.Test.YtlifkfemdknndaaReqS
namespace Go.Proofs.Ytlifkfemdknndaa
open Go.RowKit
set_option linter.unusedSimpArgs false
set_option linter.unusedVariables false

/-- a store, and what is held -/
structure Stt where
  words : List Int
  holds : List Int

def stOkB (s : Stt) : Bool := memOkB s.words && (decide (s.holds.length = 6) && allIn s.holds (-1) 63)
def getZ (ws : List Int) (a : Int) : Int := ws.getD a.toNat 0
def getAll (ws all : List Int) : List Int := all.map (getZ ws)
def put1 (ws : List Int) (a d l : Int) : List Int := ws.set a.toNat (wrdPutZ (getZ ws a) d l)
/-- the first k are put -/
def putN (ws all data lanes : List Int) : Nat → List Int
  | 0 => ws
  | k + 1 => put1 (putN ws all data lanes k) (all.getD k 0) (data.getD k 0) (lanes.getD k 0)
def putAll (ws all data lanes : List Int) : List Int := putN ws all data lanes all.length
def free1 (all : List Int) (h : Int) : Int := if h ∈ all then -1 else h
def freeAll (hs all : List Int) : List Int := hs.map (free1 all)
def onlyAt (ms : List Rng) (k : Int) : Bool := match ms[k.toNat]? with
  | some r => r.only
  | none => false
def atmOkB (ms : List Rng) (s : Stt) (who : Int) (r : Req) : Bool := mapOkB ms && (stOkB s && (inB who 0 2 && reqOkB r))
def atR (who id : Int) : Int := who * 2 + id
/-- AtmDo of what is ok -/
def atmDo (ms : List Rng) (s : Stt) (who : Int) (r : Req) : Stt × Rsp :=
  if wholeZ ms (burst r.addr r.many r.wrap) < 0 then (s, ⟨r.id, 4, []⟩)
  else if (writesB r && onlyAt ms (wholeZ ms (burst r.addr r.many r.wrap))) = true then (s, ⟨r.id, 3, []⟩)
  else if r.kind = 1 then (s, ⟨r.id, 1, getAll s.words (burst r.addr r.many r.wrap)⟩)
  else if r.kind = 3 then (⟨s.words, s.holds.set (atR who r.id).toNat r.addr⟩, ⟨r.id, 2, getAll s.words (burst r.addr r.many r.wrap)⟩)
  else if r.kind = 4 ∧ getZ s.holds (atR who r.id) ≠ r.addr then (s, ⟨r.id, 1, []⟩)
  else (⟨putAll s.words (burst r.addr r.many r.wrap) r.data r.lanes, freeAll s.holds (burst r.addr r.many r.wrap)⟩, ⟨r.id, if r.kind = 4 then 2 else 1, []⟩)
def atmZ (ms : List Rng) (s : Stt) (who : Int) (r : Req) : Stt × Rsp := if atmOkB ms s who r then atmDo ms s who r else (⟨[], []⟩, ⟨0, 0, []⟩)

theorem getAll_len (ws all : List Int) : (getAll ws all).length = all.length := by simp [getAll]
theorem put1_len (ws : List Int) (a d l : Int) : (put1 ws a d l).length = ws.length := by simp [put1]
theorem putN_len (ws all data lanes : List Int) : ∀ k, (putN ws all data lanes k).length = ws.length
  | 0 => rfl
  | k + 1 => by rw [putN, put1_len, putN_len ws all data lanes k]
theorem putAll_len (ws all data lanes : List Int) : (putAll ws all data lanes).length = ws.length := putN_len _ _ _ _ _
theorem freeAll_len (hs all : List Int) : (freeAll hs all).length = hs.length := by simp [freeAll]

/-- the value of a store, and what is held -/
def stV (s : Stt) (pw : Option Addr) (cw : Nat) (ph : Option Addr) (ch : Nat) : Value := .agg #[.slice pw s.words.length cw, .slice ph s.holds.length ch]
structure StAt (w : World) (s : Stt) (pw : Option Addr) (cw : Nat) (ph : Option Addr) (ch : Nat) : Prop where
  words : IntsAt w pw s.words
  holds : IntsAt w ph s.holds
  cw1 : s.words.length ≤ cw
  cw2 : cw ≤ 9223372036854775807
  ch1 : s.holds.length ≤ ch
  ch2 : ch ≤ 9223372036854775807
theorem StAt.below {w w' : World} {s : Stt} {pw ph : Option Addr} {cw ch : Nat} (h : StAt w s pw cw ph ch) (hb : Below w.heap.size w w') : StAt w' s pw cw ph ch :=
  ⟨h.words.below hb, h.holds.below hb, h.cw1, h.cw2, h.ch1, h.ch2⟩

/-- ints in a block of their own, from M on; or none -/
def OwnN (M : Nat) (w : World) (p : Option Addr) (cap : Nat) (l : List Int) : Prop := l = [] ∨ ∃ g, p = some ⟨g, 0, none⟩ ∧ M ≤ g ∧ ORow 3 1 w g cap l.length (l.map (Value.int .i64))
theorem OwnN.own {M : Nat} {w : World} {p : Option Addr} {cap : Nat} {l : List Int} (h : OwnN M w p cap l) : OwnI w p cap l := by
  rcases h with h | ⟨g, h1, _, h3⟩
  · exact .inl h
  · exact .inr ⟨g, h1, h3⟩
theorem OwnN.ints {M : Nat} {w : World} {p : Option Addr} {cap : Nat} {l : List Int} (h : OwnN M w p cap l) : IntsAt w p l := h.own.ints
theorem OwnN.of {M : Nat} {w w' : World} {p : Option Addr} {cap : Nat} {l : List Int} (h : OwnN M w p cap l) (hb : ∀ b, p = some ⟨b, 0, none⟩ → b < w.heap.size → w'.heap[b]? = w.heap[b]?) : OwnN M w' p cap l := by
  rcases h with h | ⟨g, h1, h2, h3⟩
  · exact .inl h
  · exact .inr ⟨g, h1, h2, h3.of (hb g h1 h3.lt)⟩
theorem OwnN.below {M : Nat} {w w' : World} {p : Option Addr} {cap : Nat} {l : List Int} (h : OwnN M w p cap l) (hb : Below w.heap.size w w') : OwnN M w' p cap l := h.of (fun b _ hlt => hb.block b hlt)
theorem OwnN.mono {M M' : Nat} {w : World} {p : Option Addr} {cap : Nat} {l : List Int} (h : OwnN M w p cap l) (hM : M' ≤ M) : OwnN M' w p cap l := by
  rcases h with h | ⟨g, h1, h2, h3⟩
  · exact .inl h
  · exact .inr ⟨g, h1, by omega, h3⟩
/-- two rows share no block -/
def Apart (p : Option Addr) (l : List Int) (q : Option Addr) (m : List Int) : Prop := l = [] ∨ m = [] ∨ p ≠ q

/-- what AtmDo leaves: three rows of their own -/
structure AtmOut (M : Nat) (w : World) (s : Stt) (x : Rsp) (pw : Option Addr) (cw : Nat) (ph : Option Addr) (ch : Nat) (px : Option Addr) (cx : Nat) : Prop where
  words : OwnN M w pw cw s.words
  holds : OwnN M w ph ch s.holds
  data : OwnN M w px cx x.data
  cw1 : s.words.length ≤ cw
  cw2 : cw ≤ 9223372036854775807
  ch1 : s.holds.length ≤ ch
  ch2 : ch ≤ 9223372036854775807
  cx1 : x.data.length ≤ cx
  cx2 : cx ≤ 9223372036854775807
  wh : Apart pw s.words ph s.holds
  wx : Apart pw s.words px x.data
  hx : Apart ph s.holds px x.data
theorem AtmOut.below {M : Nat} {w w' : World} {s : Stt} {x : Rsp} {pw ph px : Option Addr} {cw ch cx : Nat} (h : AtmOut M w s x pw cw ph ch px cx) (hb : Below w.heap.size w w') : AtmOut M w' s x pw cw ph ch px cx :=
  ⟨h.words.below hb, h.holds.below hb, h.data.below hb, h.cw1, h.cw2, h.ch1, h.ch2, h.cx1, h.cx2, h.wh, h.wx, h.hx⟩
theorem AtmOut.st {M : Nat} {w : World} {s : Stt} {x : Rsp} {pw ph px : Option Addr} {cw ch cx : Nat} (h : AtmOut M w s x pw cw ph ch px cx) : StAt w s pw cw ph ch := ⟨h.words.ints, h.holds.ints, h.cw1, h.cw2, h.ch1, h.ch2⟩
theorem AtmOut.rsp {M : Nat} {w : World} {s : Stt} {x : Rsp} {pw ph px : Option Addr} {cw ch cx : Nat} (h : AtmOut M w s x pw cw ph ch px cx) : RspAt w x px cx := ⟨h.data.ints, h.cx1, h.cx2⟩

/-- AtmOk of the program answers so -/
def AtmOkC : Prop := ∀ (s : Stt) (pw ph : Option Addr) (cw ch : Nat) (w : World), StAt w s pw cw ph ch → Calls Try.prog 80 #[stV s pw cw ph ch] w fun e w' => e = .returned (.bool (stOkB s)) ∧ Below w.heap.size w w'

/-- function F answers as AtmDo -/
def AtmDoF (F : Nat) : Prop := ∀ (a : Option Addr) (cap : Nat) (ms : List Rng) (s : Stt) (pw ph : Option Addr) (cw ch : Nat) (who : Int) (r : Req) (pd pl : Option Addr) (cd cl : Nat) (w : World),
    RowOf w a ms → ms.length ≤ cap → cap ≤ 9223372036854775807 → StAt w s pw cw ph ch → ReqAt w r pd cd pl cl →
    Calls Try.prog F #[.slice a ms.length cap, stV s pw cw ph ch, .int .i64 who, reqV r pd cd pl cl] w fun e w' =>
      ∃ qw dw qh dh qx dx, e = .returned (.tuple #[stV (atmZ ms s who r).1 qw dw qh dh, rspV (atmZ ms s who r).2 qx dx]) ∧ AtmOut w.heap.size w' (atmZ ms s who r).1 (atmZ ms s who r).2 qw dw qh dh qx dx ∧ Below w.heap.size w w'

def AtmDoC : Prop := AtmDoF 21

end Go.Proofs.Ytlifkfemdknndaa
