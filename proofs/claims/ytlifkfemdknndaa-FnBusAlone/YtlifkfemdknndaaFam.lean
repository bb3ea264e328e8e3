/-
  Kinds: several things side by side, each in blocks of its own; answers, one or two, as one value.
-/
import Derived.Test.YtlifkfemdknndaaKndDM
namespace Go.Proofs.Ytlifkfemdknndaa
open Go.RowKit
set_option linter.unusedSimpArgs false
set_option linter.unusedVariables false

/-- lists of blocks from N on, none in two, none twice -/
structure Fam (N : Nat) (w : World) (fs : List (List Nat)) : Prop where
  nd : fs.flatten.Nodup
  ge : ∀ b ∈ fs.flatten, N ≤ b
  lt : ∀ b ∈ fs.flatten, b < w.heap.size
theorem Fam.nil (N : Nat) (w : World) : Fam N w [] := ⟨by simp, fun b h => by simp at h, fun b h => by simp at h⟩
theorem Fam.size {N : Nat} {w w' : World} {fs : List (List Nat)} (h : Fam N w fs) (hs : w.heap.size ≤ w'.heap.size) : Fam N w' fs := ⟨h.nd, h.ge, fun b hb => Nat.lt_of_lt_of_le (h.lt b hb) hs⟩
theorem Fam.snoc {N : Nat} {w w' : World} {fs : List (List Nat)} {f : List Nat} (h : Fam N w fs) (hf : f.Nodup) (h1 : ∀ b ∈ f, w.heap.size ≤ b) (hN : N ≤ w.heap.size) (h2 : ∀ b ∈ f, b < w'.heap.size) (hs : w.heap.size ≤ w'.heap.size) : Fam N w' (fs ++ [f]) := by
  have e : (fs ++ [f]).flatten = fs.flatten ++ f := by simp
  refine ⟨?_, ?_, ?_⟩
  · rw [e]
    exact List.nodup_append.2 ⟨h.nd, hf, fun a ha b hb e' => by have := h.lt a ha; have := h1 b hb; omega⟩
  · rw [e]
    intro b hb
    rcases List.mem_append.1 hb with hb | hb
    · exact h.ge b hb
    · exact Nat.le_trans hN (h1 b hb)
  · rw [e]
    intro b hb
    rcases List.mem_append.1 hb with hb | hb
    · exact Nat.lt_of_lt_of_le (h.lt b hb) hs
    · exact h2 b hb
theorem Fam.split {N : Nat} {w : World} {fs : List (List Nat)} {f g : List Nat} (h : Fam N w (fs ++ [f ++ g])) : Fam N w (fs ++ [f, g]) := by
  have e : (fs ++ [f ++ g]).flatten = (fs ++ [f, g]).flatten := by simp
  exact ⟨e ▸ h.nd, e ▸ h.ge, e ▸ h.lt⟩
theorem mem_flat {fs : List (List Nat)} {j : Nat} {f : List Nat} (hj : fs[j]? = some f) {b : Nat} (hb : b ∈ f) : b ∈ fs.flatten := List.mem_flatten.2 ⟨f, List.mem_of_getElem? hj, hb⟩
theorem Fam.ne {N : Nat} {w : World} {fs : List (List Nat)} (h : Fam N w fs) {i j : Nat} {f g : List Nat} (hi : fs[i]? = some f) (hj : fs[j]? = some g) (hij : i ≠ j) : ∀ b ∈ g, b ∉ f := by
  intro b hb hb'
  obtain ⟨li, ei⟩ := List.getElem?_eq_some_iff.1 hi
  obtain ⟨lj, ej⟩ := List.getElem?_eq_some_iff.1 hj
  have hp := List.pairwise_iff_getElem.1 (List.pairwise_flatten.1 h.nd).2
  rcases Nat.lt_or_gt_of_ne hij with hlt | hgt
  · have := hp i j li lj hlt
    rw [ei, ej] at this
    exact this b hb' b hb rfl
  · have := hp j i lj li hgt
    rw [ei, ej] at this
    exact this b hb b hb' rfl
theorem Fam.ndAt {N : Nat} {w : World} {fs : List (List Nat)} (h : Fam N w fs) {j : Nat} {f : List Nat} (hj : fs[j]? = some f) : f.Nodup := (List.pairwise_flatten.1 h.nd).1 f (List.mem_of_getElem? hj)
theorem Fam.geAt {N : Nat} {w : World} {fs : List (List Nat)} (h : Fam N w fs) {j : Nat} {f : List Nat} (hj : fs[j]? = some f) : ∀ b ∈ f, N ≤ b := fun b hb => h.ge b (mem_flat hj hb)
/-- one of them is turned: the others lie as they lay -/
theorem Fam.kept {N : Nat} {w w' : World} {fs : List (List Nat)} (h : Fam N w fs) {D : Nat → Prop} (hk : Kept D w w') {i : Nat} {f : List Nat} (hi : fs[i]? = some f) (hD : ∀ b, D b → b ∈ f) {j : Nat} {g : List Nat} (hj : fs[j]? = some g) (hij : i ≠ j) : ∀ b ∈ g, w'.heap[b]? = w.heap[b]? :=
  fun b hb => hk.block b (h.lt b (mem_flat hj hb)) (fun hd => h.ne hi hj hij b hb (hD b hd))
theorem Fam.bel {N : Nat} {w0 w w' : World} {fs : List (List Nat)} (h : Fam N w fs) (hb : Below N w0 w) {D : Nat → Prop} (hk : Kept D w w') {i : Nat} {f : List Nat} (hi : fs[i]? = some f) (hD : ∀ b, D b → b ∈ f) (hN : N ≤ w.heap.size) : Below N w0 w' :=
  old_kept hb hk (fun b hd => h.geAt hi b (hD b hd)) hN

/-- two answers, as one value -/
def gTup {α β γ δ : Type} (K : Knd α β) (L : Knd γ δ) : Knd (α × γ) (β × δ) := { gPair K L with val := fun a => .tuple #[K.val a.1, L.val a.2] }
theorem gTup_blk {α β γ δ : Type} {K : Knd α β} {L : Knd γ δ} (hK : KBlk K) (hL : KBlk L) : KBlk (gTup K L) := ⟨(hK.pair hL).ow_of, (hK.pair hL).ow_lt⟩

/-- a copy that is not too great -/
def kTo {α β : Type} (K : Knd α β) (z : β) : World → Value → Prop := fun w v => ∃ a, v = K.val a ∧ K.pl a = z ∧ K.size a ≤ 1048576 ∧ K.ow w a
theorem kTo_gr {α β : Type} {K : Knd α β} (hK : KBlk K) {z : β} : ∀ w w' v, Gr w w' → kTo K z w v → kTo K z w' v := by
  rintro w w' v hg ⟨a, e, h1, h2, h3⟩; exact ⟨a, e, h1, h2, hK.ow_of h3 (fun b hm => hg.block b (hK.ow_lt h3 b hm))⟩
/-- an answer in new memory -/
def kFr {α β : Type} (K : Knd α β) (z : β) (M : Nat) : World → Value → Prop := fun w v => ∃ a, v = K.val a ∧ K.pl a = z ∧ K.size a ≤ 1000000000 ∧ Fresh K M w a
theorem kFr_gr {α β : Type} {K : Knd α β} (hK : KBlk K) {z : β} {M : Nat} : ∀ w w' v, Gr w w' → kFr K z M w v → kFr K z M w' v := by
  rintro w w' v hg ⟨a, e, h1, h2, h3⟩; exact ⟨a, e, h1, h2, h3.blwB hK hg⟩
theorem kFr.mono {α β : Type} {K : Knd α β} {z : β} {M M' : Nat} {w : World} {v : Value} (h : kFr K z M w v) (hM : M' ≤ M) : kFr K z M' w v := by
  obtain ⟨a, e, h1, h2, h3⟩ := h; exact ⟨a, e, h1, h2, h3.mono hM⟩
theorem kFr.ow {α β : Type} {K : Knd α β} {z : β} {M : Nat} {w : World} {v : Value} (h : kFr K z M w v) : kOw K z w v := by
  obtain ⟨a, e, h1, h2, h3⟩ := h; exact ⟨a, e, h1, h3.ow⟩
theorem ToC.kto {α β : Type} {K : Knd α β} {F : Nat} (h : ToC K F) (a : α) (w : World) (hr : K.rd w a) (hs : K.size a ≤ 1048576) : Calls Try.prog F #[K.val a] w fun e w' => (∃ v, e = .returned v ∧ kTo K (K.pl a) w' v) ∧ Below w.heap.size w w' := (h a w hr hs).mono (by
  rintro e w' ⟨a', rfl, h1, h2, h3, hb⟩
  exact ⟨⟨_, rfl, a', rfl, h1, by rw [h2]; exact hs, h3.ow⟩, hb⟩)
/-- copies of what holds no rows are what they are -/
theorem ToC.flat {α β : Type} {K : Knd α β} {F : Nat} (h : ToC K F) (hinj : ∀ a b, K.pl a = K.pl b → a = b) (a : α) (w : World) (hr : K.rd w a) (hs : K.size a ≤ 1048576) : Calls Try.prog F #[K.val a] w fun e w' => e = .returned (K.val a) ∧ Below w.heap.size w w' := (h a w hr hs).mono (by
  rintro e w' ⟨a', rfl, h1, h2, h3, hb⟩
  rw [hinj a' a h1]
  exact ⟨rfl, hb⟩)

def allocs (w : World) : List Obj → World
  | [] => w
  | o :: l => allocs (w.alloc o) l
theorem allocs_below : ∀ (l : List Obj) (w : World), Below w.heap.size w (allocs w l)
  | [], w => Below.refl _ _
  | o :: l, w => ((Below.refl w.heap.size w).alloc (Nat.le_refl _) o).trans ((allocs_below l (w.alloc o)).mono (by simp))
theorem allocs_at : ∀ (l : List Obj) (w : World) (i : Nat) (o : Obj), l[i]? = some o → (allocs w l).heap[w.heap.size + i]? = some o
  | x :: l, w, 0, o, h => by
    have e : x = o := by simpa using h
    subst e
    exact ((allocs_below l (w.alloc x)).block _ (by simp)).trans (nw_k _ rfl)
  | x :: l, w, i + 1, o, h => by
    have := allocs_at l (w.alloc x) i o (by simpa using h)
    rwa [show (w.alloc x).heap.size + i = w.heap.size + (i + 1) by simp; omega] at this
theorem allocs_size : ∀ (l : List Obj) (w : World), (allocs w l).heap.size = w.heap.size + l.length
  | [], w => rfl
  | o :: l, w => by rw [allocs, allocs_size l]; simp; omega

end Go.Proofs.Ytlifkfemdknndaa
