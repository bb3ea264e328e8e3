/-
  Plain mathematics of chapter 1 (addresses): no Go in sight.
-/
namespace Go.Proofs.Ytgfcidpkepnphaa

/-- a range: from, to, whose store it is, whether it can but be read -/
structure Rng where
  fr : Int
  to : Int
  sl : Int
  only : Bool

def rngOkB (r : Rng) : Bool := decide (0 ≤ r.fr ∧ r.fr ≤ r.to ∧ r.to ≤ 63 ∧ 0 ≤ r.sl ∧ r.sl ≤ 2)
def rngMeetB (a b : Rng) : Bool := decide (a.fr ≤ b.to ∧ b.fr ≤ a.to)
def inRngB (r : Rng) (n : Int) : Bool := decide (r.fr ≤ n ∧ n ≤ r.to)

def manyOkB (m : Int) : Bool := decide (m = 1 ∨ m = 2 ∨ m = 4)
/-- AdrOk -/
def adrOkB (a m : Int) (wrap : Bool) : Bool := decide (0 ≤ a ∧ a ≤ 63 ∧ (m = 1 ∨ m = 2 ∨ m = 4) ∧ (wrap = true ∨ a + m - 1 ≤ 63))

theorem adrOk_iff (a m : Int) (wrap : Bool) : adrOkB a m wrap = true ↔ 0 ≤ a ∧ a ≤ 63 ∧ (m = 1 ∨ m = 2 ∨ m = 4) ∧ (wrap = true ∨ a + m - 1 ≤ 63) := by
  simp [adrOkB]

/-- the k-th address of a burst -/
def burstAt (a m : Int) (wrap : Bool) (k : Int) : Int := if wrap then (a - a % m) + (a + k - (a - a % m)) % m else a + k

end Go.Proofs.Ytgfcidpkepnphaa
