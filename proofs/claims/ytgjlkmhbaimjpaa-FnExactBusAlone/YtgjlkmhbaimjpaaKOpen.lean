/-
  Kinds: an argument, opened.
-/
import Derived.Test.YtgjlkmhbaimjpaaRows
import Derived.Test.YtgjlkmhbaimjpaaKndI
import Derived.WalkKit
import Derived.ProofKit
import Derived.OpenShut
import Derived.ShutString
import Derived.ChangeOld
import Derived.Below
import Derived.Deep.Slices
import Derived.Lib.SmallJoins
namespace Go.Proofs.Ytgjlkmhbaimjpaa
open Go.ChangeShapes Go.WideShapes Go.ChangeAt Go.RowKit Go.Deep Go.Joins
set_option linter.unusedSimpArgs false
set_option linter.unusedVariables false

theorem ownK : ownKnob Try.prog.godebug = none := by kernel_rfl
theorem laidOutK : laidOutB Try.prog = true := by kernel_rfl

/-- what reads as one of type T is of the kind -/
def OpenK {α β : Type} (K : Knd α β) (T : TypeId) : Prop := ∀ (H : Type) (enc : TypeId × Value → H) (W : World) (n : Nat) (cs : List Value) (y : DataW H × List MemPlace),
  DataW.trod enc Try.prog W 0 (fun _ => true) true n T cs = some y → ∃ a, cs = K.cells a ∧ K.rd W a

theorem oInt : OpenK gInt 3 := by
  intro H enc W n cs y h
  obtain ⟨x, e, _, _⟩ := DataW.trod_int Try.underlying3 h
  exact ⟨x, e, trivial⟩

theorem oBool : OpenK gBool 4 := by
  intro H enc W n cs y h
  obtain ⟨x, e, _⟩ := DataW.trod_bool Try.underlying4 h
  exact ⟨x, e, trivial⟩

theorem oLst {α β : Type} {K : Knd α β} {T E : TypeId} {E' : Nat} (hu : Try.prog.underlying T = some (.slice E)) (hc : Try.prog.cellsOf E = K.sz) (hK : KLaw K) (hO : OpenK K E) : OpenK (gLst E' K) T := by
  intro H enc W n cs y h
  rcases open_slice hu h with ⟨hcs, _⟩ | ⟨x, l, c, m, n, D, Pl, hcs, _, hl, hm, hmm, _, hx⟩
  · subst hcs
    exact ⟨⟨none, 0, []⟩, rfl, Nat.le_refl _, by simp, .inl rfl, fun _ h => by simp at h⟩
  · subst hcs
    simp at hmm
    subst hmm
    have hl2 : m ≤ 9223372036854775807 := by unfold maxLen at hm; omega
    rcases Nat.eq_zero_or_pos l with h0 | h0
    · subst h0
      exact ⟨⟨some x, m, []⟩, rfl, by simp, hl2, .inl rfl, fun _ h => by simp at h⟩
    have hall : ∀ i, i < l → ∃ a, K.rd W a ∧ ∀ j v, (K.cells a)[j]? = some v → W.cell? ((x.add (i * K.sz)).add j) = some v := fun i hi => by
      obtain ⟨cs', g1, g2⟩ := hx i (by omega)
      rw [hc] at g1
      obtain ⟨_, hlen, hcell⟩ := World.cells?_some g1
      obtain ⟨a, e, hr⟩ := hO _ _ _ _ _ _ g2
      refine ⟨a, hr, fun j v hv => ?_⟩
      have hj : j < K.sz := by rw [← hK.len a]; exact (List.getElem?_eq_some_iff.1 hv).1
      rw [hcell j hj, e]
      exact hv
    obtain ⟨a0, _, h00⟩ := hall 0 h0
    obtain ⟨f, hf⟩ : ∃ f : Nat → α, ∀ i, i < l → K.rd W (f i) ∧ ∀ j v, (K.cells (f i))[j]? = some v → W.cell? ((x.add (i * K.sz)).add j) = some v := by
      classical
      refine ⟨fun i => if hi : i < l then Classical.choose (hall i hi) else a0, fun i hi => ?_⟩
      simp only [dif_pos hi]
      exact Classical.choose_spec (hall i hi)
    obtain ⟨v0, hv0⟩ : ∃ v, (K.cells a0)[0]? = some v := ⟨_, List.getElem?_eq_getElem (by rw [hK.len]; exact hK.pos)⟩
    have c0 := h00 0 v0 hv0
    simp [Addr.add] at c0
    have hsp : x.spot = none := World.cell?_spot c0
    obtain ⟨b, off, sp⟩ := x
    simp at hsp
    subst hsp
    have hb : b < W.heap.size := by
      rcases Nat.lt_or_ge b W.heap.size with h' | h'
      · exact h'
      · simp [World.cell?, Array.getElem?_eq_none h'] at c0
    refine ⟨⟨some ⟨b, off, none⟩, m, (List.range l).map f⟩, by simp [gLst], by simp only [List.length_map, List.length_range]; exact hl, hl2, .inr ⟨b, off, rfl, hb, fun k hk j v hv => ?_⟩, fun z hz => ?_⟩
    · have hk' : k < l := by simpa using hk
      simp only [List.getElem_map, List.getElem_range] at hv
      have := (hf k hk').2 j v hv
      have e : ((⟨b, off, none⟩ : Addr).add (k * K.sz)).add j = ⟨b, off + k * K.sz + j, none⟩ := by
        unfold Addr.add
        by_cases h1 : k * K.sz = 0 <;> by_cases h2 : j = 0 <;> simp [h1, h2]
        all_goals simp at h1
        all_goals simp [h1]
      rwa [e] at this
    · obtain ⟨i, hi, rfl⟩ := List.mem_map.1 hz
      exact (hf i (by simpa using hi)).1

theorem oI : OpenK yI 23 := oLst Try.underlying23 (by kernel_rfl) gInt_law oInt

set_option maxRecDepth 100000 in
/-- a slice that is handed in -/
theorem arg_slice {α β : Type} {K : Knd α β} {E' : Nat} {H : Type} {enc : TypeId × Value → H} {W : World} {r : Reach} {b0 : Nat} {T E : TypeId} {v : Value} {d : DataW H} {p : List MemPlace} (hu : Try.prog.underlying T = some (.slice E)) (hO : OpenK (gLst E' K) T) (hv : Value.okWide Try.prog W r b0 T v) (h : DataW.Trod enc Try.prog W 0 (fun _ => true) true T v d p) :
    ∃ a, v = (gLst E' K).val a ∧ (gLst E' K).rd W a := by
  obtain ⟨a0, len, cap, rfl⟩ := okWide_slice hu hv
  obtain ⟨fuel, hf⟩ := h
  obtain ⟨a, e, hr⟩ := hO _ _ _ _ _ _ hf
  exact ⟨a, (List.cons.inj (show [Value.slice a0 len cap] = [Value.slice a.p a.l.length a.c] from e)).1, hr⟩
set_option maxRecDepth 100000 in
/-- a struct that is handed in -/
theorem arg_struct {α β : Type} {K : Knd α β} {H : Type} {enc : TypeId × Value → H} {W : World} {r : Reach} {b0 : Nat} {T : TypeId} {fs : Array Field} {v : Value} {d : DataW H} {p : List MemPlace} (hu : Try.prog.underlying T = some (.struct fs)) (hK : ∀ a, K.val a = .agg (K.cells a).toArray) (hO : OpenK K T) (hv : Value.okWide Try.prog W r b0 T v) (h : DataW.Trod enc Try.prog W 0 (fun _ => true) true T v d p) :
    ∃ a, v = K.val a ∧ K.rd W a := by
  obtain ⟨cs, rfl, _⟩ := okWide_struct hu hv
  obtain ⟨fuel, hf⟩ := h
  obtain ⟨a, e, hr⟩ := hO _ _ _ _ _ _ hf
  refine ⟨a, ?_, hr⟩
  rw [hK, ← e]
  simp [Value.cells]

end Go.Proofs.Ytgjlkmhbaimjpaa
