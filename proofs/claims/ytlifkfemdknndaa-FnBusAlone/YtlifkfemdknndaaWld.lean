/-
  Worlds: 'Keep B w w2': of what lay in w nothing has turned but block B. 'Rd w B p': block B is a reader of a code (spec's l20Rd), p bytes read.
-/
import Derived.Below
import Derived.WalkKit
import Derived.WalkSpells
import Derived.Deep.QuietTactic
import Derived.BigQuiet
namespace Go.Proofs.Ytlifkfemdknndaa
open Go.RowKit
set_option linter.unusedSimpArgs false
set_option linter.unusedVariables false

theorem Hid.intro {p : Prop} (h : p) : Hid p := h

structure Keep (B : Nat) (w w' : World) : Prop where
  os : w'.os = w.os
  tape : w'.tape = w.tape
  output : w'.output = w.output
  size : w.heap.size ≤ w'.heap.size
  block : ∀ k, k < w.heap.size → k ≠ B → w'.heap[k]? = w.heap[k]?

theorem Keep.refl (B : Nat) (w : World) : Keep B w w := ⟨rfl, rfl, rfl, Nat.le_refl _, fun _ _ _ => rfl⟩
theorem Keep.trans {B : Nat} {a b c : World} (h : Keep B a b) (k : Keep B b c) : Keep B a c :=
  ⟨k.os.trans h.os, k.tape.trans h.tape, k.output.trans h.output, Nat.le_trans h.size k.size,
    fun i hi hn => (k.block i (Nat.lt_of_lt_of_le hi h.size) hn).trans (h.block i hi hn)⟩
theorem Keep.of_below {B : Nat} {w w' : World} (h : Below w.heap.size w w') : Keep B w w' :=
  ⟨h.os, h.tape, h.output, h.size, fun k hk _ => h.block k hk⟩
theorem Keep.below {B n : Nat} {w w' : World} (h : Keep B w w') (hn : n ≤ B) (hs : n ≤ w.heap.size) : Below n w w' :=
  ⟨h.os, h.tape, h.output, h.size, fun k hk => h.block k (by omega) (by omega)⟩
theorem Keep.alloc {B : Nat} {a w : World} (h : Keep B a w) (o : Obj) : Keep B a (w.alloc o) :=
  h.trans (Keep.of_below ((Below.refl _ w).alloc (Nat.le_refl _) o))
theorem Keep.drew {B : Nat} {a w : World} (h : Keep B a w) : Keep B a w.drew := ⟨h.os, h.tape, h.output, h.size, h.block⟩
theorem Keep.drewN {B : Nat} {a w : World} (h : Keep B a w) (n : Nat) : Keep B a (w.drewN n) := ⟨h.os, h.tape, h.output, h.size, h.block⟩
theorem Keep.setCell {B : Nat} {a w : World} (h : Keep B a w) {p : Addr} (hp : p.block = B ∨ a.heap.size ≤ p.block) (u : Value) : Keep B a (w.setCell p u) :=
  ⟨h.os, h.tape, h.output, by simpa using h.size, fun k hk hn => by
    rw [Below.heap_setCell _ _ _ _ (by omega)]; exact h.block k hk hn⟩
theorem Keep.cell {B : Nat} {w w' : World} (h : Keep B w w') {p : Addr} (hp : p.block < w.heap.size) (hn : p.block ≠ B) : w'.cell? p = w.cell? p :=
  World.cell?_of_block (w := w) (h.block p.block hp hn)
theorem Keep.frozen {B : Nat} {w w' : World} (h : Keep B w w') {p : Addr} (hp : p.block < w.heap.size) (hn : p.block ≠ B) : w'.frozen? p = w.frozen? p :=
  World.frozen?_of_block (w := w) (h.block p.block hp hn)

/-- a row of bytes -/
def Bytes (w : World) (B : Nat) (a : Option Addr) (len : Nat) : Prop :=
  len = 0 ∨ ∃ b off, a = some ⟨b, off, none⟩ ∧ b < B ∧ ∀ i, i < len → ∃ n : Int, 0 ≤ n ∧ n ≤ 255 ∧ w.cell? ⟨b, off + i, none⟩ = some (.int .u8 n)

def Rd (w : World) (B p : Nat) : Prop :=
  ∃ (a : Option Addr) (len cap : Nat), w.cell? ⟨B, 0, none⟩ = some (.slice a len cap) ∧ w.cell? ⟨B, 1, none⟩ = some (.int .i64 p) ∧ w.frozen? ⟨B, 1, none⟩ = false ∧
    B < w.heap.size ∧ len ≤ 2000 ∧ len ≤ cap ∧ Bytes w B a len

theorem Bytes.of {w w' : World} {B : Nat} {a : Option Addr} {len : Nat} (h : Bytes w B a len) (hk : ∀ k, k < B → w'.heap[k]? = w.heap[k]?) : Bytes w' B a len := by
  rcases h with h | ⟨b, off, h1, h2, h3⟩
  · exact .inl h
  · exact .inr ⟨b, off, h1, h2, fun i hi => by
      obtain ⟨n, g1, g2, g3⟩ := h3 i hi
      exact ⟨n, g1, g2, (World.cell?_of_block (w := w) (a := ⟨b, off + i, none⟩) (hk b h2)).trans g3⟩⟩

theorem Rd.of {w w' : World} {B p : Nat} (h : Rd w B p) (hk : ∀ k, k ≤ B → w'.heap[k]? = w.heap[k]?) (hs : w.heap.size ≤ w'.heap.size) : Rd w' B p := by
  obtain ⟨a, len, cap, h1, h2, h3, h4, h5, h6, h7⟩ := h
  refine ⟨a, len, cap, (World.cell?_of_block (w := w) (a := ⟨B, 0, none⟩) (hk B (Nat.le_refl _))).trans h1, (World.cell?_of_block (w := w) (a := ⟨B, 1, none⟩) (hk B (Nat.le_refl _))).trans h2,
    (World.frozen?_of_block (w := w) (a := ⟨B, 1, none⟩) (hk B (Nat.le_refl _))).trans h3, by omega, h5, h6, h7.of (fun k hlt => hk k (by omega))⟩
theorem Rd.lt {w : World} {B p : Nat} (h : Rd w B p) : B < w.heap.size := by obtain ⟨_, _, _, _, _, _, h, _⟩ := h; exact h
theorem Rd.below {w w' : World} {B p : Nat} (h : Rd w B p) (hb : Below w.heap.size w w') : Rd w' B p :=
  h.of (fun k hk => hb.block k (by have := h.lt; omega)) hb.size
theorem Rd.alloc {w : World} {B p : Nat} (h : Rd w B p) (o : Obj) : Rd (w.alloc o) B p := h.below ((Below.refl _ w).alloc (Nat.le_refl _) o)
theorem Rd.drew {w : World} {B p : Nat} (h : Rd w B p) : Rd w.drew B p := h
theorem Rd.drewN {w : World} {B p : Nat} (h : Rd w B p) (n : Nat) : Rd (w.drewN n) B p := h
/-- one byte more is read -/
theorem Rd.step {w : World} {B p : Nat} (h : Rd w B p) : Rd (w.setCell ⟨B, 1, none⟩ (.int .i64 ((p : Int) + 1))) B (p + 1) := by
  obtain ⟨a, len, cap, h1, h2, h3, h4, h5, h6, h7⟩ := h
  refine ⟨a, len, cap, ?_, ?_, ?_, by simpa using h4, h5, h6, h7.of (fun k hlt => Below.heap_setCell _ _ _ _ (by simp; omega))⟩
  · rw [World.cell?_setCell_other _ _ _ _ (by simp)]; exact h1
  · rw [World.cell?_setCell_same _ _ _ h2]; simp
  · simpa using h3
/-- a store elsewhere -/
theorem Rd.other {w : World} {B p : Nat} (h : Rd w B p) {x : Addr} (hx : B < x.block) (u : Value) : Rd (w.setCell x u) B p :=
  h.of (fun k hk => Below.heap_setCell _ _ _ _ (by omega)) (by simp)

end Go.Proofs.Ytlifkfemdknndaa
