/-
  Plain mathematics of chapter 1 (addresses): no Go in sight.
-/
namespace Go.Proofs.Ytlifkfemdknndaa

/-- a range: from, to, whose store it is, whether it can but be read -/
structure Rng where
  fr : Int
  tt : Int
  sl : Int
  only : Bool

def rngOkB (r : Rng) : Bool := decide (0 ≤ r.fr ∧ r.fr ≤ r.tt ∧ r.tt ≤ 63 ∧ 0 ≤ r.sl ∧ r.sl ≤ 2)
def rngMeetB (a b : Rng) : Bool := decide (a.fr ≤ b.tt ∧ b.fr ≤ a.tt)
def inRngB (r : Rng) (n : Int) : Bool := decide (r.fr ≤ n ∧ n ≤ r.tt)

def inB (n lo hi : Int) : Bool := decide (lo ≤ n ∧ n ≤ hi)
theorem inB_t {n lo hi : Int} (h : lo ≤ n ∧ n ≤ hi) : inB n lo hi = true := by simpa [inB] using h
theorem inB_f {n lo hi : Int} (h : ¬ (lo ≤ n ∧ n ≤ hi)) : inB n lo hi = false := by simpa [inB] using h
def manyOkB (m : Int) : Bool := decide (m = 1 ∨ m = 2 ∨ m = 4)
/-- AdrOk -/
def adrOkB (a m : Int) (wrap : Bool) : Bool := decide (0 ≤ a ∧ a ≤ 63 ∧ (m = 1 ∨ m = 2 ∨ m = 4) ∧ (wrap = true ∨ a + m - 1 ≤ 63))

theorem adrOk_iff (a m : Int) (wrap : Bool) : adrOkB a m wrap = true ↔ 0 ≤ a ∧ a ≤ 63 ∧ (m = 1 ∨ m = 2 ∨ m = 4) ∧ (wrap = true ∨ a + m - 1 ≤ 63) := by
  simp [adrOkB]

/-- the k-th address of a burst -/
def burstAt (a m : Int) (wrap : Bool) (k : Int) : Int := if wrap then (a - a % m) + (a + k - (a - a % m)) % m else a + k

/-- MapFind -/
def mapFindZ : List Rng → Int → Int
  | [], _ => 3
  | r :: l, n => if inRngB r n then r.sl else mapFindZ l n
/-- in which range -/
def findAt : List Rng → Int → Nat → Int
  | [], _, _ => -1
  | r :: l, n, k => if inRngB r n then (k : Int) else findAt l n (k + 1)

/-- MapOk -/
def okAhead (ahead : List Rng) (r : Rng) : Bool := ahead.all (fun x => !rngMeetB x r)
def okAll : List Rng → List Rng → Bool
  | _, [] => true
  | ah, r :: l => rngOkB r && okAhead ah r && okAll (ah ++ [r]) l
def mapOkB (l : List Rng) : Bool := decide (l.length ≤ 4) && okAll [] l

theorem meet_symm (a b : Rng) : rngMeetB a b = rngMeetB b a := by
  simp only [rngMeetB, decide_eq_decide]; omega

theorem drop_at {l : List Rng} {k : Nat} (h : k < l.length) : l.drop k = l[k] :: l.drop (k + 1) := List.drop_eq_getElem_cons h
theorem take_at {l : List Rng} {k : Nat} (h : k < l.length) : l.take (k + 1) = l.take k ++ [l[k]] := by simp [List.take_append_getElem h]

theorem find_step {l : List Rng} {k : Nat} {n : Int} (h : k < l.length) : mapFindZ (l.drop k) n = if inRngB l[k] n then l[k].sl else mapFindZ (l.drop (k + 1)) n := by
  rw [drop_at h]; rfl
theorem find_end {l : List Rng} {k : Nat} {n : Int} (h : l.length ≤ k) : mapFindZ (l.drop k) n = 3 := by
  rw [List.drop_eq_nil_of_le h]; rfl
theorem findAt_step {l : List Rng} {k : Nat} {n : Int} (h : k < l.length) : findAt (l.drop k) n k = if inRngB l[k] n then (k : Int) else findAt (l.drop (k + 1)) n (k + 1) := by
  rw [drop_at h]; rfl
theorem findAt_end {l : List Rng} {k : Nat} {n : Int} (h : l.length ≤ k) : findAt (l.drop k) n k = -1 := by
  rw [List.drop_eq_nil_of_le h]; rfl
theorem findAt_spec (n : Int) : ∀ (l : List Rng) (k : Nat), (findAt l n k = -1 ∧ mapFindZ l n = 3) ∨ ∃ i, ∃ h : i < l.length, findAt l n k = ((k + i : Nat) : Int) ∧ mapFindZ l n = l[i].sl ∧ inRngB l[i] n = true
  | [], k => .inl ⟨rfl, rfl⟩
  | r :: l, k => by
    simp only [findAt, mapFindZ]
    by_cases h : inRngB r n = true
    · exact .inr ⟨0, by simp, by simp [h], by simp [h], by simpa using h⟩
    · rcases findAt_spec n l (k + 1) with ⟨h1, h2⟩ | ⟨i, hi, h1, h2, h3⟩
      · exact .inl ⟨by simp [h, h1], by simp [h, h2]⟩
      · exact .inr ⟨i + 1, by simpa using hi, by simp [h, h1]; omega, by simp [h, h2], by simpa using h3⟩

theorem ok_step {l : List Rng} {k : Nat} (h : k < l.length) : okAll (l.take k) (l.drop k) = (rngOkB l[k] && okAhead (l.take k) l[k] && okAll (l.take (k + 1)) (l.drop (k + 1))) := by
  rw [drop_at h, take_at h]; rfl
theorem ok_end {l : List Rng} {k : Nat} (h : l.length ≤ k) : okAll (l.take k) (l.drop k) = true := by
  rw [List.drop_eq_nil_of_le h]; cases l.take k <;> rfl
theorem ahead_step {l : List Rng} {j : Nat} {r : Rng} (h : j < l.length) : okAhead (l.take (j + 1)) r = (okAhead (l.take j) r && !rngMeetB l[j] r) := by
  rw [take_at h, okAhead, List.all_append]; simp only [okAhead, List.all_cons, List.all_nil, Bool.and_true]
theorem ahead_hit {l : List Rng} {j k : Nat} {r : Rng} (h : j < l.length) (hjk : j < k) (hm : rngMeetB l[j] r = true) : okAhead (l.take k) r = false := by
  rw [← Bool.not_eq_true]
  intro hx
  simp only [okAhead, List.all_eq_true] at hx
  have := hx l[j] (List.mem_iff_getElem.2 ⟨j, by simp; omega, by simp⟩)
  simp [hm] at this

end Go.Proofs.Ytlifkfemdknndaa
