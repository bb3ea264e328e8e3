/-
  Plain facts on ranges that are ok: parts of them; one of them twice; one of them left out; no address in two.
-/
import Derived.Test.YtdjmjdljgdagcaaPure
namespace Go.Proofs.Ytdjmjdljgdagcaa
set_option linter.unusedSimpArgs false
set_option linter.unusedVariables false

theorem okAll_iff : ∀ (l ah : List Rng), okAll ah l = true ↔ (∀ r ∈ l, rngOkB r = true) ∧ (∀ r ∈ l, ∀ x ∈ ah, rngMeetB x r = false) ∧ l.Pairwise (fun a b => rngMeetB a b = false)
  | [], ah => by simp [okAll]
  | r :: l, ah => by
    have ih := okAll_iff l (ah ++ [r])
    simp only [okAll, Bool.and_eq_true, okAhead, List.all_eq_true, Bool.not_eq_true', ih, List.mem_cons, List.pairwise_cons, List.mem_append, List.not_mem_nil, or_false]
    constructor
    · rintro ⟨⟨h1, h2⟩, h3, h4, h5⟩
      refine ⟨?_, ?_, ?_, h5⟩
      · rintro x (rfl | hx)
        · exact h1
        · exact h3 x hx
      · rintro x (rfl | hx) y hy
        · exact h2 y hy
        · exact h4 x hx y (.inl hy)
      · intro x hx
        exact h4 x hx r (.inr rfl)
    · rintro ⟨h1, h2, h3, h4⟩
      refine ⟨⟨h1 r (.inl rfl), fun x hx => h2 r (.inl rfl) x hx⟩, fun x hx => h1 x (.inr hx), ?_, h4⟩
      rintro x hx y (hy | rfl)
      · exact h2 x (.inr hx) y hy
      · exact h3 x hx

theorem mapOk_iff (l : List Rng) : mapOkB l = true ↔ l.length ≤ 4 ∧ (∀ r ∈ l, rngOkB r = true) ∧ l.Pairwise (fun a b => rngMeetB a b = false) := by
  simp [mapOkB, okAll_iff]

theorem mapOk_sub {l m : List Rng} (h : mapOkB l = true) (hs : m.Sublist l) : mapOkB m = true := by
  rw [mapOk_iff] at h ⊢
  exact ⟨Nat.le_trans hs.length_le h.1, fun r hr => h.2.1 r (hs.subset hr), h.2.2.sublist hs⟩
theorem mapOk_take {l : List Rng} (h : mapOkB l = true) (k : Nat) : mapOkB (l.take k) = true := mapOk_sub h (List.take_sublist k l)
theorem meet_self {r : Rng} (h : rngOkB r = true) : rngMeetB r r = true := by
  simp [rngOkB] at h
  simp [rngMeetB]; omega
theorem mapOk_twice {l : List Rng} (h : mapOkB l = true) (k : Nat) (hk : k < l.length) : mapOkB (l ++ [l[k]]) = false := by
  rw [← Bool.not_eq_true, mapOk_iff]
  rintro ⟨_, _, hp⟩
  rw [mapOk_iff] at h
  rw [List.pairwise_append] at hp
  have h1 := hp.2.2 l[k] (List.getElem_mem hk) l[k] (by simp)
  rw [meet_self (h.2.1 _ (List.getElem_mem hk))] at h1
  cases h1

theorem in_meet {a b : Rng} {n : Int} (h1 : inRngB a n = true) (h2 : inRngB b n = true) : rngMeetB a b = true := by
  simp [inRngB] at h1 h2
  simp [rngMeetB]; omega

/-- how many of them have an address -/
def hits (n : Int) (l : List Rng) : Nat := (l.filter (fun r => inRngB r n)).length
theorem hits_le {l : List Rng} (h : l.Pairwise (fun a b => rngMeetB a b = false)) (n : Int) : hits n l ≤ 1 := by
  induction l with
  | nil => simp [hits]
  | cons r l ih =>
    rw [List.pairwise_cons] at h
    have ih := ih h.2
    by_cases hr : inRngB r n = true
    · have h0 : l.filter (fun r => inRngB r n) = [] := by
        rw [List.filter_eq_nil_iff]
        intro x hx hxn
        have := in_meet hr hxn
        rw [h.1 x hx] at this
        cases this
      simp [hits, hr, h0]
    · simp only [hits, List.filter_cons, hr] at ih ⊢
      exact ih
theorem hits_step {l : List Rng} {k : Nat} {n : Int} (h : k < l.length) : hits n (l.take (k + 1)) = hits n (l.take k) + (if inRngB l[k] n then 1 else 0) := by
  rw [take_at h]
  simp only [hits, List.filter_append, List.length_append]
  by_cases hr : inRngB l[k] n = true <;> simp [hr]
theorem hits_ok {l : List Rng} (h : mapOkB l = true) (n : Int) (k : Nat) : hits n (l.take k) ≤ 1 :=
  hits_le (((mapOk_iff l).1 h).2.2.sublist (List.take_sublist k l)) n

theorem find_app (l m : List Rng) (n : Int) : mapFindZ (l ++ m) n = if l.any (fun r => inRngB r n) then mapFindZ l n else mapFindZ m n := by
  induction l with
  | nil => simp
  | cons r l ih =>
    by_cases hr : inRngB r n = true
    · simp [mapFindZ, hr]
    · simp only [List.cons_append, mapFindZ, hr, ih, List.any_cons]
      simp
theorem find_none {l : List Rng} {n : Int} (h : ∀ r ∈ l, inRngB r n = false) : mapFindZ l n = 3 := by
  induction l with
  | nil => rfl
  | cons r l ih => simp [mapFindZ, h r (by simp), ih (fun x hx => h x (by simp [hx]))]

/-- one of them left out -/
def without (l : List Rng) (k : Nat) : List Rng := l.take k ++ l.drop (k + 1)
theorem without_sub (l : List Rng) (k : Nat) : (without l k).Sublist l := by
  unfold without
  have h : l = l.take k ++ l.drop k := (List.take_append_drop k l).symm
  have h2 : (l.take k ++ l.drop (k + 1)).Sublist (l.take k ++ l.drop k) := List.Sublist.append (List.Sublist.refl _) (by
    rw [← List.drop_drop]
    exact List.drop_sublist 1 _)
  rw [← h] at h2
  exact h2
theorem mapOk_without {l : List Rng} (h : mapOkB l = true) (k : Nat) : mapOkB (without l k) = true := mapOk_sub h (without_sub l k)
theorem split_at {l : List Rng} {k : Nat} (h : k < l.length) : l = l.take k ++ l[k] :: l.drop (k + 1) := by
  rw [← drop_at h, List.take_append_drop]
theorem find_without_in {l : List Rng} (h : mapOkB l = true) {k : Nat} (hk : k < l.length) {n : Int} (hn : inRngB l[k] n = true) : mapFindZ (without l k) n = 3 := by
  have hp := ((mapOk_iff l).1 h).2.2
  rw [split_at hk, List.pairwise_append, List.pairwise_cons] at hp
  refine find_none (fun r hr => ?_)
  rw [← Bool.not_eq_true]
  intro hrn
  rcases List.mem_append.1 hr with hr | hr
  · have := hp.2.2 r hr l[k] List.mem_cons_self
    rw [in_meet hrn hn] at this
    cases this
  · have := hp.2.1.1 r hr
    rw [in_meet hn hrn] at this
    cases this
theorem find_without_out {l : List Rng} {k : Nat} (hk : k < l.length) {n : Int} (hn : inRngB l[k] n = false) : mapFindZ (without l k) n = mapFindZ l n := by
  have e : mapFindZ l n = mapFindZ (l.take k ++ l[k] :: l.drop (k + 1)) n := by rw [← split_at hk]
  rw [e, without, find_app, find_app]
  simp [mapFindZ, hn]

end Go.Proofs.Ytdjmjdljgdagcaa
