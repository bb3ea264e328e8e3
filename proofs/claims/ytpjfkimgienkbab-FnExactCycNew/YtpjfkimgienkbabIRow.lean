/-
  Rows of ints in memory; AdrBurst of the model.
-/
import Derived.Test.YtpjfkimgienkbabProg
import Derived.Test.YtpjfkimgienkbabAdr
import Derived.Test.YtpjfkimgienkbabORow
import Derived.Test.YtpjfkimgienkbabWld
namespace Go.Proofs.Ytpjfkimgienkbab
open Go.RowKit
set_option linter.unusedSimpArgs false
set_option linter.unusedVariables false

/-- ints in memory -/
def IntsAt (w : World) (a : Option Addr) (l : List Int) : Prop :=
  l = [] ∨ ∃ b off, a = some ⟨b, off, none⟩ ∧ b < w.heap.size ∧ ∀ k (h : k < l.length), w.cell? ⟨b, off + k, none⟩ = some (.int .i64 l[k])
theorem IntsAt.of {w w' : World} {a : Option Addr} {l : List Int} (h : IntsAt w a l) (hs : w.heap.size ≤ w'.heap.size) (hb : ∀ b off, a = some ⟨b, off, none⟩ → b < w.heap.size → w'.heap[b]? = w.heap[b]?) : IntsAt w' a l := by
  rcases h with h | ⟨b, off, h1, h2, h3⟩
  · exact .inl h
  · exact .inr ⟨b, off, h1, by omega, fun k hk => (World.cell?_of_block (w := w) (a := ⟨b, _, none⟩) (hb b off h1 h2)).trans (h3 k hk)⟩
theorem IntsAt.below {w w' : World} {a : Option Addr} {l : List Int} (h : IntsAt w a l) (hb : Below w.heap.size w w') : IntsAt w' a l :=
  h.of hb.size (fun b _ _ hlt => hb.block b hlt)

theorem Try.infoInt : (Try.prog.info? 3).map (fun i => (i.zero, i.size, i.bytes)) = some (some (.int .i64 0), 1, 8) := by kernel_rfl

/-- from an owned row -/
theorem ints_owned {w : World} {base g n cap : Nat} {l : List Int} (h : w.ownsRow base 3 1 (.slice (some ⟨g, 0, none⟩) n cap) n (l.map (Value.int .i64))) (hn : n = l.length) :
    IntsAt w (some ⟨g, 0, none⟩) l ∧ base ≤ g ∧ l.length ≤ cap ∧ cap ≤ 9223372036854775807 := by
  subst hn
  obtain ⟨_, h | ⟨g', cap', cur, hv, h1, h2, h3, h4, h5, h6⟩⟩ := h
  · simp at h
  · simp at hv
    obtain ⟨rfl, rfl⟩ := hv
    refine ⟨.inr ⟨g, 0, rfl, (Array.getElem?_eq_some_iff.1 h2).1, fun k hk => ?_⟩, h1, h3, by unfold maxLen at h4; omega⟩
    have e : w.cell? ⟨g, k, none⟩ = cur[k]? := by simp [World.cell?, h2]
    have h7 : (cur.toList.take (l.length * 1))[k]? = (l.map (Value.int .i64))[k]? := by rw [h6]
    rw [List.getElem?_take, if_pos (by omega)] at h7
    simp only [Nat.zero_add]
    rw [e]
    simpa [hk] using h7

theorem ints_base {w : World} {base g n cap : Nat} {l : List Value} (h : w.ownsRow base 3 1 (.slice (some ⟨g, 0, none⟩) n cap) n l) : base ≤ g := by
  obtain ⟨_, h | ⟨g', cap', cur, hv, h1, _⟩⟩ := h
  · simp at h
  · simp at hv
    obtain ⟨rfl, rfl⟩ := hv
    exact h1

/-- the addresses of a burst -/
def burst (a m : Int) (wrap : Bool) : List Int := if adrOkB a m wrap then (List.range m.toNat).map (fun k : Nat => burstAt a m wrap (k : Int)) else []
theorem burst_ok {a m : Int} {wrap : Bool} (h : adrOkB a m wrap = true) : burst a m wrap = (List.range m.toNat).map (fun k : Nat => burstAt a m wrap (k : Int)) := by simp [burst, h]
theorem burst_no {a m : Int} {wrap : Bool} (h : adrOkB a m wrap = false) : burst a m wrap = [] := by simp [burst, h]
theorem upto_succ (f : Nat → Int) (k : Nat) : ((List.range (k + 1)).map f).map (Value.int .i64) = ((List.range k).map f).map (Value.int .i64) ++ [.int .i64 (f k)] := by
  simp [List.range_succ]

end Go.Proofs.Ytpjfkimgienkbab
