/-
  Worlds: 'Kept D A B': all blocks of A but those of D lie in B as they lay.
-/
import Derived.Below
import Derived.WalkKit
import Derived.WalkSpells
namespace Go.Proofs.Ytlifkfemdknndaa
open Go.RowKit
set_option linter.unusedSimpArgs false
set_option linter.unusedVariables false

/-- all blocks but those of D lie as they lay -/
structure Kept (D : Nat → Prop) (A B : World) : Prop where
  os : B.os = A.os
  tape : B.tape = A.tape
  output : B.output = A.output
  size : A.heap.size ≤ B.heap.size
  block : ∀ k, k < A.heap.size → ¬ D k → B.heap[k]? = A.heap[k]?
theorem Kept.refl (D : Nat → Prop) (A : World) : Kept D A A := ⟨rfl, rfl, rfl, Nat.le_refl _, fun _ _ _ => rfl⟩
theorem Kept.trans {D : Nat → Prop} {A B C : World} (h : Kept D A B) (k : Kept D B C) : Kept D A C :=
  ⟨k.os.trans h.os, k.tape.trans h.tape, k.output.trans h.output, Nat.le_trans h.size k.size, fun i hi hd => (k.block i (Nat.lt_of_lt_of_le hi h.size) hd).trans (h.block i hi hd)⟩
theorem Kept.mono {D E : Nat → Prop} {A B : World} (h : Kept D A B) (hd : ∀ k, D k → E k) : Kept E A B := ⟨h.os, h.tape, h.output, h.size, fun k hk he => h.block k hk (fun x => he (hd k x))⟩
theorem Kept.of_below {D : Nat → Prop} {A B : World} (h : Below A.heap.size A B) : Kept D A B := ⟨h.os, h.tape, h.output, h.size, fun k hk _ => h.block k hk⟩
theorem Kept.drew (D : Nat → Prop) (A : World) : Kept D A A.drew := .of_below ((Below.refl _ A).drew)
theorem Kept.alloc (D : Nat → Prop) (A : World) (o : Obj) : Kept D A (A.alloc o) := .of_below ((Below.refl _ A).alloc (Nat.le_refl _) o)
theorem Kept.setCell {D : Nat → Prop} (A : World) {p : Addr} (hp : D p.block) (u : Value) : Kept D A (A.setCell p u) :=
  have h := (Below.refl 0 A).setCell (p := p) (Nat.zero_le _) u
  ⟨h.os, h.tape, h.output, h.size, fun k _ hd => Below.heap_setCell _ _ _ _ (fun e => hd (e ▸ hp))⟩
theorem Kept.cell {D : Nat → Prop} {A B : World} (h : Kept D A B) {p : Addr} (h1 : p.block < A.heap.size) (h2 : ¬ D p.block) : B.cell? p = A.cell? p := World.cell?_of_block (w := A) (h.block p.block h1 h2)
theorem Kept.frozen {D : Nat → Prop} {A B : World} (h : Kept D A B) {p : Addr} (h1 : p.block < A.heap.size) (h2 : ¬ D p.block) : B.frozen? p = A.frozen? p := World.frozen?_of_block (w := A) (h.block p.block h1 h2)

end Go.Proofs.Ytlifkfemdknndaa
