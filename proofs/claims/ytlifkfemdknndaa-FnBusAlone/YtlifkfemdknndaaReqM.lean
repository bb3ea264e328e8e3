/-
  What is asked, and what comes of it: ReqOk and RspOk of the model.
-/
import Derived.Test.YtlifkfemdknndaaPure
import Derived.Test.YtlifkfemdknndaaProg
import Derived.Test.YtlifkfemdknndaaAdr
import Derived.Test.YtlifkfemdknndaaIRow
/-
  Plain mathematics of chapter 3 (what is asked): no Go in sight.
-/
namespace Go.Proofs.Ytlifkfemdknndaa

/-- what is asked -/
structure Req where
  id : Int
  kind : Int
  addr : Int
  many : Int
  wrap : Bool
  data : List Int
  lanes : List Int
/-- what comes of it -/
structure Rsp where
  id : Int
  code : Int
  data : List Int

def allIn (l : List Int) (lo hi : Int) : Bool := l.all (fun n => inB n lo hi)
def writesB (r : Req) : Bool := decide (r.kind = 2 ∨ r.kind = 4)
/-- ReqOk, in its parts -/
def reqHeadB (r : Req) : Bool := inB r.id 0 1 && (inB r.kind 1 4 && adrOkB r.addr r.many r.wrap)
def reqOneB (r : Req) : Bool := decide (r.kind < 3 ∨ r.many = 1)
def reqNoneB (r : Req) : Bool := decide (r.data.length = 0) && decide (r.lanes.length = 0)
def reqWordsB (r : Req) : Bool := decide ((r.data.length : Int) = r.many) && (decide ((r.lanes.length : Int) = r.many) && (allIn r.data 0 65535 && allIn r.lanes 0 3))
def reqOkB (r : Req) : Bool := reqHeadB r && (reqOneB r && (if writesB r then reqWordsB r else reqNoneB r))
def rspOkB (r : Rsp) : Bool := inB r.id 0 1 && (inB r.code 1 4 && (decide (r.data.length ≤ 4) && allIn r.data 0 65535))

theorem allIn_hit {l : List Int} {lo hi : Int} {k : Nat} (h : k < l.length) (hb : inB l[k] lo hi = false) : allIn l lo hi = false :=
  List.all_eq_false.2 ⟨l[k], List.getElem_mem h, by simp [hb]⟩
theorem allIn_step {l : List Int} {lo hi : Int} {k : Nat} (h : k < l.length) (ha : allIn (l.take k) lo hi = true) (hb : inB l[k] lo hi = true) : allIn (l.take (k + 1)) lo hi = true := by
  unfold allIn at *
  rw [List.take_succ_eq_append_getElem h, List.all_append, ha]; simp [hb]
theorem allIn_end {l : List Int} {lo hi : Int} {k : Nat} (hk : l.length ≤ k) (ha : allIn (l.take k) lo hi = true) : allIn l lo hi = true := by
  rwa [List.take_of_length_le hk] at ha

/-- l1Whole: in which range all are; -1, if they are not all of one -/
def wholeZ (ms : List Rng) : List Int → Int
  | [] => -1
  | a :: l => if l.all (fun x => findAt ms x 0 == findAt ms a 0) then findAt ms a 0 else -1
/-- whose range it is -/
def slaveAt (ms : List Rng) (k : Int) : Int := if k < 0 then 3 else match ms[k.toNat]? with
  | some r => r.sl
  | none => 3
end Go.Proofs.Ytlifkfemdknndaa

namespace Go.Proofs.Ytlifkfemdknndaa
open Go.RowKit
set_option linter.unusedSimpArgs false
set_option linter.unusedVariables false

set_option maxRecDepth 100000 in
set_option maxHeartbeats 1000000 in
theorem l3All_any (p : Option Addr) (cap : Nat) (xs : List Int) (lo hi : Int) (w : World) (hp : IntsAt w p xs) (h1 : xs.length ≤ cap) (h2 : cap ≤ 9223372036854775807) :
    Calls Try.prog 34 #[.slice p xs.length cap, .int .i64 lo, .int .i64 hi] w fun e w' => e = .returned (.bool (allIn xs lo hi)) ∧ w' = w := by
  have HP := Hid.intro hp
  clear hp
  go_enter Try.func34, Try.ntmps34
  go_wp2
  go_loopw [7] (fun i wr => ∃ k : Nat, k ≤ xs.length ∧ i = .int .i64 k ∧ wr = w ∧ Hid (allIn (xs.take k) lo hi = true)) (fun i _ => xs.length - (intOf i).toNat)
  case atStart => exact ⟨0, Nat.zero_le _, rfl, rfl, rfl⟩
  case round =>
    obtain ⟨k, hk, rfl, rfl, HF⟩ := hrel
    by_cases hlt : k < xs.length
    · rcases HP.out with hx | ⟨b, off, rfl, hb, hcells⟩
      · subst hx; simp at hlt
      have hk0 : (0 : Int) ≤ (k : Int) := by omega
      have hk1 : (k : Int) < (xs.length : Int) := by omega
      have hc1 := hcells k hlt
      clear hcells HP
      cases hb : inB xs[k] lo hi
      · have HN := Hid.intro (allIn_hit hlt hb)
        go_wp2_with (go_at_call 42; refine (in_any _ _ _ _).mono ?_; rintro e w' ⟨rfl, rfl⟩)
        go_ret
        exact ⟨by rw [HN.out]; rfl, rfl⟩
      · have HN := Hid.intro (allIn_step hlt HF.out hb)
        go_wp2_with (go_at_call 42; refine (in_any _ _ _ _).mono ?_; rintro e w' ⟨rfl, rfl⟩)
        go_roundw
        case rel => exact ⟨k + 1, by omega, by go_num, by simp, HN⟩
        case measure => simp [intOf]; omega
    · have HN := Hid.intro (allIn_end (show xs.length ≤ k by omega) HF.out)
      go_wp2
      go_ret
      exact ⟨by rw [HN.out]; rfl, rfl⟩

/-- the value of what is asked -/
def reqV (r : Req) (pd : Option Addr) (cd : Nat) (pl : Option Addr) (cl : Nat) : Value :=
  .agg #[.int .i64 r.id, .int .i64 r.kind, .int .i64 r.addr, .int .i64 r.many, .bool r.wrap, .slice pd r.data.length cd, .slice pl r.lanes.length cl]
/-- its words and lanes lie in memory -/
structure ReqAt (w : World) (r : Req) (pd : Option Addr) (cd : Nat) (pl : Option Addr) (cl : Nat) : Prop where
  data : IntsAt w pd r.data
  lanes : IntsAt w pl r.lanes
  cd1 : r.data.length ≤ cd
  cd2 : cd ≤ 9223372036854775807
  cl1 : r.lanes.length ≤ cl
  cl2 : cl ≤ 9223372036854775807
theorem ReqAt.below {w w' : World} {r : Req} {pd pl : Option Addr} {cd cl : Nat} (h : ReqAt w r pd cd pl cl) (hb : Below w.heap.size w w') : ReqAt w' r pd cd pl cl :=
  ⟨h.data.below hb, h.lanes.below hb, h.cd1, h.cd2, h.cl1, h.cl2⟩

theorem writes_any (r : Req) (pd pl : Option Addr) (cd cl : Nat) (w : World) :
    Calls Try.prog 85 #[reqV r pd cd pl cl] w fun e w' => e = .returned (.bool (writesB r)) ∧ Below w.heap.size w w' := by
  have hbl : ∀ o, Below w.heap.size w (w.alloc o) := fun o => (Below.refl _ w).alloc (Nat.le_refl _) o
  unfold reqV
  cases h2 : (r.kind == 2)
  · cases h4 : (r.kind == 4)
    · go_enter Try.func85, Try.ntmps85
      go_wp2
      go_ret
      simp at h2 h4
      exact ⟨by simp [writesB, h2, h4], hbl _⟩
    · go_enter Try.func85, Try.ntmps85
      go_wp2
      go_ret
      simp at h4
      exact ⟨by simp [writesB, h4], hbl _⟩
  · go_enter Try.func85, Try.ntmps85
    go_wp2
    go_ret
    simp at h2
    exact ⟨by simp [writesB, h2], hbl _⟩

/-- ReqOk in the walk's own words -/
theorem reqOk_eq (r : Req) : reqOkB r = (inB r.id 0 1 && (inB r.kind 1 4 && adrOkB r.addr r.many r.wrap) && ((!(decide (3 ≤ r.kind)) || !(r.many != 1)) &&
    (if writesB r then ((r.data.length : Int) == r.many) && (((r.lanes.length : Int) == r.many) && (allIn r.data 0 65535 && allIn r.lanes 0 3)) else ((r.data.length : Int) == 0) && ((r.lanes.length : Int) == 0)))) := by
  have e1 : reqOneB r = (!(decide (3 ≤ r.kind)) || !(r.many != 1)) := by
    rw [Bool.eq_iff_iff]; simp [reqOneB]
  have e2 : ∀ a b : Int, decide (a = b) = (a == b) := fun a b => by rw [Bool.eq_iff_iff]; simp
  have e3 : ∀ n : Nat, decide (n = 0) = ((n : Int) == 0) := fun n => by rw [Bool.eq_iff_iff]; simp
  unfold reqOkB reqHeadB reqWordsB reqNoneB
  rw [e1, e2, e2, e3, e3]

/-- a variable of seven cells, behind a call -/
theorem box7 {w w1 : World} {v0 v1 v2 v3 v4 v5 v6 : Value} {t : TypeId} (hb : Below (w.alloc (.cells #[v0, v1, v2, v3, v4, v5, v6] t)).heap.size (w.alloc (.cells #[v0, v1, v2, v3, v4, v5, v6] t)) w1) :
    w1.cell? ⟨w.heap.size, 0, none⟩ = some v0 ∧ w1.cell? ⟨w.heap.size, 1, none⟩ = some v1 ∧ w1.cell? ⟨w.heap.size, 2, none⟩ = some v2 ∧ w1.cell? ⟨w.heap.size, 3, none⟩ = some v3 ∧
    w1.cell? ⟨w.heap.size, 4, none⟩ = some v4 ∧ w1.cell? ⟨w.heap.size, 5, none⟩ = some v5 ∧ w1.cell? ⟨w.heap.size, 6, none⟩ = some v6 := by
  have h : ∀ i, w1.cell? ⟨w.heap.size, i, none⟩ = #[v0, v1, v2, v3, v4, v5, v6][i]? := fun i => (hb.cell (p := ⟨w.heap.size, i, none⟩) (by simp)).trans (by simp)
  exact ⟨h 0, h 1, h 2, h 3, h 4, h 5, h 6⟩

set_option maxRecDepth 100000 in
set_option maxHeartbeats 4000000 in
theorem spec_ReqOk (r : Req) (pd pl : Option Addr) (cd cl : Nat) (w : World) (h : ReqAt w r pd cd pl cl) :
    Calls Try.prog 57 #[reqV r pd cd pl cl] w fun e w' => e = .returned (.bool (reqOkB r)) ∧ Below w.heap.size w w' := by
  have hbl : ∀ o, Below w.heap.size w (w.alloc o) := fun o => (Below.refl _ w).alloc (Nat.le_refl _) o
  have HE := Hid.intro (reqOk_eq r)
  cases h1 : inB r.id 0 1
  · unfold reqV
    go_enter Try.func57, Try.ntmps57
    go_wp2_with (first | (go_at_call 42; refine (in_any _ _ _ _).mono ?_; rintro e w' ⟨rfl, rfl⟩) | (go_at_call 84; refine (spec_AdrOk _ _ _ _).mono ?_; rintro e w' ⟨rfl, rfl⟩))
    go_ret
    exact ⟨by rw [HE.out, h1]; rfl, hbl _⟩
  cases h2 : inB r.kind 1 4
  · unfold reqV
    go_enter Try.func57, Try.ntmps57
    go_wp2_with (first | (go_at_call 42; refine (in_any _ _ _ _).mono ?_; rintro e w' ⟨rfl, rfl⟩) | (go_at_call 84; refine (spec_AdrOk _ _ _ _).mono ?_; rintro e w' ⟨rfl, rfl⟩))
    go_ret
    exact ⟨by rw [HE.out, h1, h2]; rfl, hbl _⟩
  cases h3 : adrOkB r.addr r.many r.wrap
  · unfold reqV
    go_enter Try.func57, Try.ntmps57
    go_wp2_with (first | (go_at_call 42; refine (in_any _ _ _ _).mono ?_; rintro e w' ⟨rfl, rfl⟩) | (go_at_call 84; refine (spec_AdrOk _ _ _ _).mono ?_; rintro e w' ⟨rfl, rfl⟩))
    go_ret
    exact ⟨by rw [HE.out, h1, h2, h3]; rfl, hbl _⟩
  by_cases h4 : decide (3 ≤ r.kind) = true ∧ (r.many != 1) = true
  · obtain ⟨h4, h5⟩ := h4
    unfold reqV
    go_enter Try.func57, Try.ntmps57
    go_wp2_with (first | (go_at_call 42; refine (in_any _ _ _ _).mono ?_; rintro e w' ⟨rfl, rfl⟩) | (go_at_call 84; refine (spec_AdrOk _ _ _ _).mono ?_; rintro e w' ⟨rfl, rfl⟩))
    go_ret
    exact ⟨by rw [HE.out, h1, h2, h3, h4, h5]; rfl, hbl _⟩
  have hone : (!(decide (3 ≤ r.kind)) || !(r.many != 1)) = true := by
    cases a : decide (3 ≤ r.kind) <;> cases b : (r.many != 1) <;> simp_all
  have HO := Hid.intro hone
  have hcase : decide (3 ≤ r.kind) = false ∨ (decide (3 ≤ r.kind) = true ∧ (r.many != 1) = false) := by
    cases a : decide (3 ≤ r.kind) <;> cases b : (r.many != 1) <;> simp_all
  clear h4 hone
  have hW := writes_any r pd pl cd cl
  have HW := Hid.intro hW
  have HA := Hid.intro h
  clear hW h
  rcases hcase with h4 | ⟨h4, h5⟩
  all_goals
    unfold reqV
    go_enter Try.func57, Try.ntmps57
    go_wp2_with (first | (go_at_call 42; refine (in_any _ _ _ _).mono ?_; rintro e w' ⟨rfl, rfl⟩) | (go_at_call 84; refine (spec_AdrOk _ _ _ _).mono ?_; rintro e w' ⟨rfl, rfl⟩))
    refine (HW.out _).mono ?_
    rintro e w1 ⟨rfl, hb1⟩
    obtain ⟨c0, c1, c2, c3, c4, c5, c6⟩ := box7 hb1
    have hb1' := (hbl _).trans (hb1.mono (hbl _).size)
    have hA1 := HA.out.below hb1'
    have H1 := Hid.intro (fun lo hi => l3All_any pd cd r.data lo hi w1 hA1.data hA1.cd1 hA1.cd2)
    have H2 := Hid.intro (fun lo hi => l3All_any pl cl r.lanes lo hi w1 hA1.lanes hA1.cl1 hA1.cl2)
    clear hb1 HA HW hA1
    cases hw : writesB r
    · cases d0 : ((r.data.length : Int) == 0)
      · go_wp2
        go_ret
        exact ⟨by rw [HE.out, h1, h2, h3, HO.out, hw, d0]; rfl, hb1'⟩
      · go_wp2
        go_ret
        exact ⟨by rw [HE.out, h1, h2, h3, HO.out, hw, d0]; rfl, hb1'⟩
    · cases d1 : ((r.data.length : Int) == r.many)
      · go_wp2
        go_ret
        exact ⟨by rw [HE.out, h1, h2, h3, HO.out, hw, d1]; rfl, hb1'⟩
      · cases d2 : ((r.lanes.length : Int) == r.many)
        · go_wp2
          go_ret
          exact ⟨by rw [HE.out, h1, h2, h3, HO.out, hw, d1, d2]; rfl, hb1'⟩
        · cases d3 : allIn r.data 0 65535
          · go_wp2_with fail
            refine (H1.out 0 65535).mono ?_
            rintro e w2 ⟨rfl, hw2⟩
            replace hw2 := hw2.symm
            subst hw2
            rw [d3]
            go_wp2
            go_ret
            exact ⟨by rw [HE.out, h1, h2, h3, HO.out, hw, d1, d2, d3]; rfl, hb1'⟩
          · go_wp2_with fail
            refine (H1.out 0 65535).mono ?_
            rintro e w2 ⟨rfl, hw2⟩
            replace hw2 := hw2.symm
            subst hw2
            rw [d3]
            go_wp2_with fail
            refine (H2.out 0 3).mono ?_
            rintro e w2 ⟨rfl, hw2⟩
            replace hw2 := hw2.symm
            subst hw2
            go_wp2
            go_ret
            exact ⟨by rw [HE.out, h1, h2, h3, HO.out, hw, d1, d2, d3]; rfl, hb1'⟩

end Go.Proofs.Ytlifkfemdknndaa
