/-
  What is asked, of the program: names, kinds, words.
-/
import Derived.Test.YtdjmjdljgdagcaaProg
import Derived.Test.YtdjmjdljgdagcaaReq
import Derived.Test.YtdjmjdljgdagcaaAllAre
import Derived.Handy
namespace Go.Proofs.Ytdjmjdljgdagcaa
open Go.RowKit
set_option linter.unusedSimpArgs false
set_option linter.unusedVariables false

theorem nameOk_any (n : Int) (w : World) :
    Calls Try.prog 53 #[.int .i64 n] w fun e w' => e = .returned (.bool (inB n 0 1)) ∧ w' = w := by
  by_cases h1 : 0 ≤ n
  · by_cases h2 : n < 2
    · go_enter Try.func53, Try.ntmps53
      go_wp2
      go_ret
      exact ⟨by simp [inB]; omega, rfl⟩
    · have hd : decide (n < 2) = false := by simpa using h2
      go_enter Try.func53, Try.ntmps53
      go_wp2
      go_ret
      exact ⟨by simp [inB]; omega, rfl⟩
  · have hd : decide (0 ≤ n) = false := by simpa using h1
    go_enter Try.func53, Try.ntmps53
    go_wp2
    go_ret
    exact ⟨by simp [inB]; omega, rfl⟩

theorem codeOk_any (n : Int) (w : World) :
    Calls Try.prog 64 #[.int .i64 n] w fun e w' => e = .returned (.bool (inB n 1 4)) ∧ w' = w := by
  by_cases h1 : 1 ≤ n
  · by_cases h2 : n ≤ 4
    · go_enter Try.func64, Try.ntmps64
      go_wp2
      go_ret
      exact ⟨by simp [inB]; omega, rfl⟩
    · have hd : decide (n ≤ 4) = false := by simpa using h2
      go_enter Try.func64, Try.ntmps64
      go_wp2
      go_ret
      exact ⟨by simp [inB]; omega, rfl⟩
  · have hd : decide (1 ≤ n) = false := by simpa using h1
    go_enter Try.func64, Try.ntmps64
    go_wp2
    go_ret
    exact ⟨by simp [inB]; omega, rfl⟩

theorem noneB_eq (r : Req) : reqNoneB r = (((r.data.length : Int) == 0) && ((r.lanes.length : Int) == 0)) := by
  have e3 : ∀ n : Nat, decide (n = 0) = ((n : Int) == 0) := fun n => by rw [Bool.eq_iff_iff]; simp
  unfold reqNoneB
  rw [e3, e3]

theorem wordsB_eq (r : Req) : reqWordsB r = (((r.data.length : Int) == r.many) && (((r.lanes.length : Int) == r.many) && (allIn r.data 0 65535 && allIn r.lanes 0 3))) := by
  have e2 : ∀ a b : Int, decide (a = b) = (a == b) := fun a b => by rw [Bool.eq_iff_iff]; simp
  unfold reqWordsB
  rw [e2, e2]

theorem noWords_any (r : Req) (pd pl : Option Addr) (cd cl : Nat) (w : World) :
    Calls Try.prog 104 #[reqV r pd cd pl cl] w fun e w' => e = .returned (.bool (reqNoneB r)) ∧ Below w.heap.size w w' := by
  have hbl : ∀ o, Below w.heap.size w (w.alloc o) := fun o => (Below.refl _ w).alloc (Nat.le_refl _) o
  have HE := Hid.intro (noneB_eq r)
  unfold reqV
  cases d0 : ((r.data.length : Int) == 0)
  · go_enter Try.func104, Try.ntmps104
    go_wp2
    go_ret
    exact ⟨by rw [HE.out, d0]; rfl, hbl _⟩
  · go_enter Try.func104, Try.ntmps104
    go_wp2
    go_ret
    exact ⟨by rw [HE.out, d0]; rfl, hbl _⟩

set_option maxRecDepth 100000 in
set_option maxHeartbeats 1000000 in
theorem itsWords_any (r : Req) (pd pl : Option Addr) (cd cl : Nat) (w : World) (h : ReqAt w r pd cd pl cl) :
    Calls Try.prog 110 #[reqV r pd cd pl cl] w fun e w' => e = .returned (.bool (reqWordsB r)) ∧ Below w.heap.size w w' := by
  have hbl : ∀ o, Below w.heap.size w (w.alloc o) := fun o => (Below.refl _ w).alloc (Nat.le_refl _) o
  have HE := Hid.intro (wordsB_eq r)
  have H1 := Hid.intro (fun o => allAre_w pd cd r.data (w.alloc o) (h.below (hbl o)).data h.cd1 h.cd2)
  have H2 := Hid.intro (fun o => allAre_l pl cl r.lanes (w.alloc o) (h.below (hbl o)).lanes h.cl1 h.cl2)
  clear h
  unfold reqV
  cases d0 : ((r.data.length : Int) == r.many)
  · go_enter Try.func110, Try.ntmps110
    go_wp2
    go_ret
    exact ⟨by rw [HE.out, d0]; rfl, hbl _⟩
  cases d1 : ((r.lanes.length : Int) == r.many)
  · go_enter Try.func110, Try.ntmps110
    go_wp2
    go_ret
    exact ⟨by rw [HE.out, d0, d1]; rfl, hbl _⟩
  cases d2 : allIn r.data 0 65535
  · go_enter Try.func110, Try.ntmps110
    go_wp2_with fail
    refine (H1.out _).mono ?_
    rintro e w' ⟨rfl, rfl⟩
    rw [d2]
    go_wp2
    go_ret
    exact ⟨by rw [HE.out, d0, d1, d2]; rfl, hbl _⟩
  · go_enter Try.func110, Try.ntmps110
    go_wp2_with fail
    refine (H1.out _).mono ?_
    rintro e w' ⟨rfl, rfl⟩
    rw [d2]
    go_wp2_with fail
    refine (H2.out _).mono ?_
    rintro e w' ⟨rfl, rfl⟩
    go_wp2
    go_ret
    exact ⟨by rw [HE.out, d0, d1, d2]; rfl, hbl _⟩

end Go.Proofs.Ytdjmjdljgdagcaa
