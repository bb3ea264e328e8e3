/-
  Kinds: boxes; what several things, side by side, keep while one of them is marked; what lay before.
-/
import Derived.Test.YtgjlkmhbaimjpaaKndLM
import Derived.Test.YtgjlkmhbaimjpaaFacts
import Derived.Test.YtgjlkmhbaimjpaaOpsXM
namespace Go.Proofs.Ytgjlkmhbaimjpaa
open Go.RowKit
set_option linter.unusedSimpArgs false
set_option linter.unusedVariables false

theorem KLaw.kt {α β : Type} {K : Knd α β} (hK : KLaw K) {w w' : World} {a : α} {t : Nat} (h : K.ow w a) (hk : KT t w w') (ht : t ∉ K.tys) : K.ow w' a := hK.ow_of h (fun b hb => by
  obtain ⟨cur, E, h1, h2⟩ := hK.ow_ty h b hb
  exact (hk.cells h2 (fun e => ht (e ▸ h1))).trans h2.symm)
theorem Fresh.kt {α β : Type} {K : Knd α β} (hK : KLaw K) {M : Nat} {w w' : World} {a : α} {t : Nat} (h : Fresh K M w a) (hk : KT t w w') (ht : t ∉ K.tys) : Fresh K M w' a := ⟨hK.kt h.ow hk ht, h.nd, h.ge⟩
theorem KLaw.ow_blw {α β : Type} {K : Knd α β} (hK : KLaw K) {w w' : World} {a : α} (h : K.ow w a) (hb : Below w.heap.size w w') : K.ow w' a := hK.ow_of h (fun b hm => hb.block b (hK.ow_lt h b hm))

/-- a box that holds something -/
def gBox {α β : Type} (T : Nat) (K : Knd α β) : Knd (Nat × α) β :=
  { sz := 1, cells := fun a => [.pointer (some ⟨a.1, 0, none⟩)], val := fun a => .pointer (some ⟨a.1, 0, none⟩), rd := fun w a => w.heap[a.1]? = some (.cells (K.cells a.2).toArray T (0, 0)) ∧ K.rd w a.2, ow := fun w a => w.heap[a.1]? = some (.cells (K.cells a.2).toArray T (0, 0)) ∧ K.ow w a.2,
    foot := fun a => a.1 :: K.foot a.2, pl := fun a => K.pl a.2, size := fun a => K.size a.2, cnt := fun a => 0, mkd := fun _ _ => True, vcnt := fun _ => 0, vmkd := fun _ _ => True, zero := (0, K.zero), tys := T :: K.tys }
theorem Fresh.box {α β : Type} {K : Knd α β} {T M M' b : Nat} {w : World} {a : α} (hb : w.heap[b]? = some (.cells (K.cells a).toArray T (0, 0))) (hM : M ≤ b) (h : Fresh K M' w a) (hM' : M ≤ M') (hn : b ∉ K.foot a) : Fresh (gBox T K) M w (b, a) :=
  ⟨⟨hb, h.ow⟩, List.nodup_cons.2 ⟨hn, h.nd⟩, fun x hx => by rcases List.mem_cons.1 hx with rfl | hx; · exact hM
                                                            · exact Nat.le_trans hM' (h.ge x hx)⟩
/-- a kind, as far as blocks go -/
structure KBlk {α β : Type} (K : Knd α β) : Prop where
  ow_of : ∀ {w w' : World} {a : α}, K.ow w a → (∀ b ∈ K.foot a, w'.heap[b]? = w.heap[b]?) → K.ow w' a
  ow_lt : ∀ {w : World} {a : α}, K.ow w a → ∀ b ∈ K.foot a, b < w.heap.size
theorem KLaw.blk {α β : Type} {K : Knd α β} (h : KLaw K) : KBlk K := ⟨h.ow_of, h.ow_lt⟩
theorem KBlk.box {α β : Type} {K : Knd α β} {T : Nat} (h : KBlk K) : KBlk (gBox T K) := ⟨fun ho hb => ⟨(hb _ (List.mem_cons_self ..)).trans ho.1, h.ow_of ho.2 (fun b hm => hb b (List.mem_cons_of_mem _ hm))⟩, fun ho b hm => by
  rcases List.mem_cons.1 hm with rfl | hm
  · exact heap_lt ho.1
  · exact h.ow_lt ho.2 b hm⟩
theorem KBlk.pair {α β γ δ : Type} {K : Knd α β} {L : Knd γ δ} (hK : KBlk K) (hL : KBlk L) : KBlk (gPair K L) := ⟨fun h hb => ⟨hK.ow_of h.1 (fun b hm => hb b (List.mem_append.2 (.inl hm))), hL.ow_of h.2 (fun b hm => hb b (List.mem_append.2 (.inr hm)))⟩, fun h b hm => by
  rcases List.mem_append.1 hm with hm | hm
  · exact hK.ow_lt h.1 b hm
  · exact hL.ow_lt h.2 b hm⟩
theorem Fresh.ofB {α β : Type} {K : Knd α β} (hK : KBlk K) {M : Nat} {w w' : World} {a : α} (h : Fresh K M w a) (hb : ∀ b ∈ K.foot a, w'.heap[b]? = w.heap[b]?) : Fresh K M w' a := ⟨hK.ow_of h.ow hb, h.nd, h.ge⟩
theorem Fresh.blwB {α β : Type} {K : Knd α β} (hK : KBlk K) {M : Nat} {w w' : World} {a : α} (h : Fresh K M w a) (hb : Below w.heap.size w w') : Fresh K M w' a := h.ofB hK (fun b hm => hb.block b (hK.ow_lt h.ow b hm))
/-- the first of two is marked -/
theorem Fresh.updL {α β γ δ : Type} {K : Knd α β} {L : Knd γ δ} (hL : KBlk L) {M : Nat} {w w' : World} {a a' : α} {b : γ} {D : Nat → Prop} (h : Fresh (gPair K L) M w (a, b)) (hk : Kept D w w') (hD : ∀ x, D x → x ∈ K.foot a) (ha : Fresh K M w' a') (hf : K.foot a' = K.foot a) : Fresh (gPair K L) M w' (a', b) := by
  obtain ⟨n1, n2, n3⟩ := List.nodup_append.1 h.nd
  refine ⟨⟨ha.ow, hL.ow_of h.ow.2 (fun x hx => hk.block x (hL.ow_lt h.ow.2 x hx) (fun hd => n3 x (hD x hd) x hx rfl))⟩, ?_, ?_⟩
  · show (K.foot a' ++ L.foot b).Nodup; rw [hf]; exact h.nd
  · show ∀ x ∈ K.foot a' ++ L.foot b, M ≤ x; rw [hf]; exact h.ge
theorem Fresh.updR {α β γ δ : Type} {K : Knd α β} {L : Knd γ δ} (hK : KBlk K) {M : Nat} {w w' : World} {a : α} {b b' : γ} {D : Nat → Prop} (h : Fresh (gPair K L) M w (a, b)) (hk : Kept D w w') (hD : ∀ x, D x → x ∈ L.foot b) (hb : Fresh L M w' b') (hf : L.foot b' = L.foot b) : Fresh (gPair K L) M w' (a, b') := by
  obtain ⟨n1, n2, n3⟩ := List.nodup_append.1 h.nd
  refine ⟨⟨hK.ow_of h.ow.1 (fun x hx => hk.block x (hK.ow_lt h.ow.1 x hx) (fun hd => n3 x hx x (hD x hd) rfl)), hb.ow⟩, ?_, ?_⟩
  · show (K.foot a ++ L.foot b').Nodup; rw [hf]; exact h.nd
  · show ∀ x ∈ K.foot a ++ L.foot b', M ≤ x; rw [hf]; exact h.ge
theorem Fresh.updB {α β : Type} {K : Knd α β} {T M b : Nat} {w w' : World} {a a' : α} {D : Nat → Prop} (h : Fresh (gBox T K) M w (b, a)) (hk : Kept D w w') (hD : ∀ x, D x → x ∈ K.foot a) (ha : K.ow w' a') (hf : K.foot a' = K.foot a) (hc : K.cells a' = K.cells a) : Fresh (gBox T K) M w' (b, a') := by
  obtain ⟨n1, n2⟩ := List.nodup_cons.1 h.nd
  refine ⟨⟨?_, ha⟩, ?_, ?_⟩
  · show w'.heap[b]? = some (.cells (K.cells a').toArray T (0, 0))
    rw [hc]
    exact (hk.block b (heap_lt h.ow.1) (fun hd => n1 (hD b hd))).trans h.ow.1
  · show (b :: K.foot a').Nodup; rw [hf]; exact h.nd
  · show ∀ x ∈ b :: K.foot a', M ≤ x; rw [hf]; exact h.ge
theorem Fresh.fst {α β γ δ : Type} {K : Knd α β} {L : Knd γ δ} {M : Nat} {w : World} {a : α} {b : γ} (h : Fresh (gPair K L) M w (a, b)) : Fresh K M w a := ⟨h.ow.1, (List.nodup_append.1 h.nd).1, fun x hx => h.ge x (List.mem_append.2 (.inl hx))⟩
theorem Fresh.snd {α β γ δ : Type} {K : Knd α β} {L : Knd γ δ} {M : Nat} {w : World} {a : α} {b : γ} (h : Fresh (gPair K L) M w (a, b)) : Fresh L M w b := ⟨h.ow.2, (List.nodup_append.1 h.nd).2.1, fun x hx => h.ge x (List.mem_append.2 (.inr hx))⟩
theorem Fresh.inb {α β : Type} {K : Knd α β} {T M b : Nat} {w : World} {a : α} (h : Fresh (gBox T K) M w (b, a)) : Fresh K M w a := ⟨h.ow.2, (List.nodup_cons.1 h.nd).2, fun x hx => h.ge x (List.mem_cons_of_mem _ hx)⟩
/-- side by side: the second is newer -/
theorem Fresh.join {α β γ δ : Type} {K : Knd α β} {L : Knd γ δ} {M M' : Nat} {w : World} {a : α} {b : γ} (h1 : Fresh K M w a) (hM : M ≤ M') (hlt : ∀ x ∈ K.foot a, x < M') (h2 : Fresh L M' w b) : Fresh (gPair K L) M w (a, b) := h1.pair hM hlt h2
/-- what lay before N lies as it lay -/
theorem old_kept {N : Nat} {w w1 w2 : World} {D : Nat → Prop} (h : Below N w w1) (hk : Kept D w1 w2) (hD : ∀ b, D b → N ≤ b) (hN : N ≤ w1.heap.size) : Below N w w2 :=
  ⟨hk.os.trans h.os, hk.tape.trans h.tape, hk.output.trans h.output, Nat.le_trans h.size hk.size, fun k hlt => (hk.block k (by omega) (fun hd => by have := hD k hd; omega)).trans (h.block k hlt)⟩

/-- answers, as one value -/
def Ans2 {α β γ δ : Type} (K : Knd α β) (L : Knd γ δ) (z : β) (y : δ) (M : Nat) : World → Value → Prop := fun w v => ∃ a b, v = .tuple #[K.val a, L.val b] ∧ K.pl a = z ∧ L.pl b = y ∧ K.size a + L.size b ≤ 1000000000 ∧ Fresh (gPair K L) M w (a, b)
theorem Ans2.gr {α β γ δ : Type} {K : Knd α β} {L : Knd γ δ} (hK : KBlk K) (hL : KBlk L) {z : β} {y : δ} {M : Nat} : ∀ w w' v, Gr w w' → Ans2 K L z y M w v → Ans2 K L z y M w' v := by
  rintro w w' v hg ⟨a, b, e, h1, h2, h3, h4⟩; exact ⟨a, b, e, h1, h2, h3, h4.blwB (hK.pair hL) hg⟩
theorem Ans2.kt {α β γ δ : Type} {K : Knd α β} {L : Knd γ δ} (hK : KLaw K) (hL : KLaw L) {z : β} {y : δ} {M t : Nat} (h1 : t ∉ K.tys) (h2 : t ∉ L.tys) : ∀ w w' v, KT t w w' → Ans2 K L z y M w v → Ans2 K L z y M w' v := by
  rintro w w' v hk ⟨a, b, e, g1, g2, g3, g4⟩; exact ⟨a, b, e, g1, g2, g3, ⟨⟨hK.kt g4.ow.1 hk h1, hL.kt g4.ow.2 hk h2⟩, g4.nd, g4.ge⟩⟩
/-- a copy, as one value -/
def kOw {α β : Type} (K : Knd α β) (z : β) : World → Value → Prop := fun w v => ∃ a, v = K.val a ∧ K.pl a = z ∧ K.ow w a
theorem kOw_gr {α β : Type} {K : Knd α β} (hK : KBlk K) {z : β} : ∀ w w' v, Gr w w' → kOw K z w v → kOw K z w' v := by
  rintro w w' v hg ⟨a, e, h1, h2⟩; exact ⟨a, e, h1, hK.ow_of h2 (fun b hm => hg.block b (hK.ow_lt h2 b hm))⟩
theorem kOw_kt {α β : Type} {K : Knd α β} (hK : KLaw K) {z : β} {t : Nat} (ht : t ∉ K.tys) : ∀ w w' v, KT t w w' → kOw K z w v → kOw K z w' v := by
  rintro w w' v hk ⟨a, e, h1, h2⟩; exact ⟨a, e, h1, hK.kt h2 hk ht⟩
theorem ToC.ow {α β : Type} {K : Knd α β} {F : Nat} (h : ToC K F) (a : α) (w : World) (hr : K.rd w a) (hs : K.size a ≤ 1048576) : Calls Try.prog F #[K.val a] w fun e w' => (∃ v, e = .returned v ∧ kOw K (K.pl a) w' v) ∧ Below w.heap.size w w' := (h a w hr hs).mono (by
  rintro e w' ⟨a', rfl, h1, _, h3, hb⟩
  exact ⟨⟨_, rfl, a', rfl, h1, h3.ow⟩, hb⟩)

theorem Ans2.mono {α β γ δ : Type} {K : Knd α β} {L : Knd γ δ} {z : β} {y : δ} {M M' : Nat} {w : World} {v : Value} (h : Ans2 K L z y M w v) (hM : M' ≤ M) : Ans2 K L z y M' w v := by
  obtain ⟨a, b, e, g1, g2, g3, g4⟩ := h; exact ⟨a, b, e, g1, g2, g3, g4.mono hM⟩
/-- two answers, the first in a box -/
theorem Fresh.box2 {α β γ δ : Type} {K : Knd α β} {L : Knd γ δ} {T M B : Nat} {w : World} {a : α} {b : γ} (h : Fresh (gPair K L) M w (a, b)) (hB : w.heap[B]? = some (.cells (K.cells a).toArray T (0, 0))) (hM : M ≤ B) (hn : ∀ x ∈ (gPair K L).foot (a, b), x < B) : Fresh (gPair (gBox T K) L) M w ((B, a), b) := by
  refine ⟨⟨⟨hB, h.ow.1⟩, h.ow.2⟩, ?_, ?_⟩
  · show (B :: (K.foot a ++ L.foot b)).Nodup
    exact List.nodup_cons.2 ⟨fun hm => by have := hn B hm; omega, h.nd⟩
  · intro x hx
    rcases List.mem_cons.1 (show x ∈ B :: (K.foot a ++ L.foot b) from hx) with rfl | hx
    · exact hM
    · exact h.ge x hx
theorem fresh_mark {α β : Type} {K : Knd α β} {M : Nat} {w w' : World} {a a' : α} (h : Fresh K M w a) (ho : K.ow w' a') (hf : K.foot a' = K.foot a) : Fresh K M w' a' := ⟨ho, by rw [hf]; exact h.nd, by rw [hf]; exact h.ge⟩

end Go.Proofs.Ytgjlkmhbaimjpaa
