/-
  Rows of numbers: the laws' functions, by contract of kinds.
-/
import Derived.Test.YtlifkfemdknndaaKndLM
import Derived.Test.YtlifkfemdknndaaToIntsM
namespace Go.Proofs.Ytlifkfemdknndaa
open Go.RowKit
set_option linter.unusedSimpArgs false
set_option linter.unusedVariables false

def yI : Knd (Lst Int) (List Int) := gLst 3 gInt
theorem yI_law : KLaw yI := gLst_law gInt_law (by decide)
theorem flat_int (l : List Int) : l.flatMap gInt.cells = l.map (Value.int .i64) := by
  induction l with
  | nil => rfl
  | cons x l ih => rw [List.flatMap_cons, ih]; rfl
theorem foot_scal {α β : Type} {K : Knd α β} (h : ∀ a, K.foot a = []) (l : List α) : l.flatMap K.foot = [] := by
  induction l with
  | nil => rfl
  | cons x l ih => rw [List.flatMap_cons, ih, h]; rfl
theorem yI_foot (a : Lst Int) : yI.foot a = blk a := by
  show blk a ++ a.l.flatMap gInt.foot = _
  rw [foot_scal (fun _ => rfl)]; simp
theorem yI_rd {w : World} {a : Lst Int} : yI.rd w a ↔ a.l.length ≤ a.c ∧ a.c ≤ 9223372036854775807 ∧ IntsAt w a.p a.l := by
  constructor
  · rintro ⟨h1, h2, h3, _⟩
    refine ⟨h1, h2, ?_⟩
    rcases h3 with h3 | ⟨b, off, e, hlt, hc⟩
    · exact .inl h3
    · refine .inr ⟨b, off, e, hlt, fun k hk => ?_⟩
      have := hc k hk 0 _ rfl
      simpa [gInt] using this
  · rintro ⟨h1, h2, h3⟩
    refine ⟨h1, h2, ?_, fun _ _ => trivial⟩
    rcases h3 with h3 | ⟨b, off, e, hlt, hc⟩
    · exact .inl h3
    · refine .inr ⟨b, off, e, hlt, fun k hk j v hv => ?_⟩
      have hj : j = 0 := by
        have := (List.getElem?_eq_some_iff.1 hv).1
        simp [gInt] at this; exact this
      subst hj
      have : v = .int .i64 a.l[k] := by simpa [gInt] using hv.symm
      subst this
      simpa [gInt] using hc k hk
theorem yI_ow {w : World} {a : Lst Int} : yI.ow w a ↔ a.l.length ≤ a.c ∧ a.c ≤ 9223372036854775807 ∧ OwnI w a.p a.c a.l := by
  constructor
  · rintro ⟨h1, h2, h3, _⟩
    refine ⟨h1, h2, ?_⟩
    rcases h3 with h3 | ⟨b, e, hO⟩
    · exact .inl h3
    · rw [flat_int] at hO; exact .inr ⟨b, e, hO⟩
  · rintro ⟨h1, h2, h3⟩
    refine ⟨h1, h2, ?_, fun _ _ => trivial⟩
    rcases h3 with h3 | ⟨b, e, hO⟩
    · exact .inl h3
    · refine .inr ⟨b, e, ?_⟩; rw [flat_int]; exact hO
theorem map_zero {α : Type} (l : List α) : (l.map (fun _ => 0)).sum = 0 := by induction l <;> simp_all
theorem map_one {α : Type} (l : List α) : (l.map (fun _ => 1)).sum = l.length := by induction l <;> simp_all [Nat.add_comm]
theorem yI_size (a : Lst Int) : yI.size a = a.l.length := by
  show a.l.length + (a.l.map (fun _ => 0)).sum = _
  rw [map_zero]; rfl
theorem cnt_int (l : List Int) : cntL gInt l = l.length := map_one l
theorem yI_cnt (a : Lst Int) : yI.vcnt a = a.l.length := cnt_int a.l
theorem mkdL_int : ∀ (l : List Int) (k : Int), mkdL gInt l k ↔ l = markL k l.length
  | [], k => by simp [mkdL, markL]
  | x :: l, k => by
    have e : markL k (l.length + 1) = k :: markL (k + 1) l.length := by
      simp only [markL, List.range_succ_eq_map, List.map_cons, List.map_map]
      refine congr (by simp) (List.map_congr_left (fun i _ => ?_))
      simp only [Function.comp_apply, Nat.succ_eq_add_one]; push_cast; omega
    simp only [mkdL, List.length_cons, e, List.cons.injEq, mkdL_int l]
    exact Iff.rfl
theorem blk_nodup {α : Type} (a : Lst α) : (blk a).Nodup := by
  unfold blk
  split <;> simp
theorem blk_mem {α : Type} {a : Lst α} {b : Nat} (h : b ∈ blk a) : a.l ≠ [] ∧ ∃ x, a.p = some x ∧ x.block = b := by
  unfold blk at h
  split at h
  · simp at h
  · rename_i h1 h2; simp at h; exact ⟨by rw [h1]; simp, _, h2, h.symm⟩
  · simp at h

end Go.Proofs.Ytlifkfemdknndaa
