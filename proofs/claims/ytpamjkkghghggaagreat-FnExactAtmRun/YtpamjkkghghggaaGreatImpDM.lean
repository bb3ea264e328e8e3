/-
  state of the program's desk: the store, and what is held, in memory of its own.
-/
import Derived.Test.YtpamjkkghghggaaGreatProg
import Derived.WalkKit
import Derived.ProofKit
import Derived.WideKeyRuns
import Derived.Laws.StructEq
import Derived.Laws.Small
import Derived.Maps.Keyed
import Derived.Test.YtpamjkkghghggaaGreatKept
import Derived.Test.YtpamjkkghghggaaGreatImpA
import Derived.Laws.CopyRow
import Derived.BigQuiet
import Derived.Test.YtpamjkkghghggaaGreatPairWM
import Derived.Test.YtpamjkkghghggaaGreatFacts
/-
  A map whose keys are two numbers and whose values are numbers, as a function: looked up, written, taken out.
-/
namespace Go.Proofs.YtpamjkkghghggaaGreat
open Go.RowKit
set_option linter.unusedSimpArgs false
set_option linter.unusedVariables false

def keyV (a b : Int) : Value := .agg #[.int .i64 a, .int .i64 b]
def kvE (e : MapEntry) : Value × Value := (e.key, e.val)
def kvL (x : (Int × Int) × Int) : Value × Value := (keyV x.1.1 x.1.2, .int .i64 x.2)

/-- what the walks ask of the map's type T, its keys' K and its values' E -/
structure HK (P : Program) (T K E : TypeId) : Prop where
  ht : P.underlying T = some (.map K E)
  eq : ∀ a b c d w, (Op.equal K (keyV a b) (keyV c d)).run P w = .ok (a == c && b == d) w
  ck : ∀ em a b w, (Instr.checkKey em 10000 K (keyV a b)).run P w = .ok () w
  fk : ∀ x es w, (Instr.findKey K x es).run P w = (Instr.findAsking K x es).run P w
  zr : ∀ w, (zeroValue E).run P w = .ok (.int .i64 0) w

theorem find_run {P : Program} {T K E : TypeId} (h : HK P T K E) (a b : Int) (w : World) : ∀ (es : List MapEntry) (L : List ((Int × Int) × Int)) (i : Nat), es.map kvE = L.map kvL →
    ((Instr.findAsking K (keyV a b) es i).run P w = .ok none w ∧ ∀ x ∈ L, x.1 ≠ (a, b)) ∨
    ∃ e1 e e2 L1 v L2, es = e1 ++ e :: e2 ∧ L = L1 ++ ((a, b), v) :: L2 ∧ e1.map kvE = L1.map kvL ∧ kvE e = kvL ((a, b), v) ∧ e2.map kvE = L2.map kvL ∧ (Instr.findAsking K (keyV a b) es i).run P w = .ok (some (i + e1.length, .int .i64 v)) w
  | [], L, i, hm => by
    cases L with
    | cons x L => simp at hm
    | nil => exact .inl ⟨by simp [Instr.findAsking], by simp⟩
  | e :: es, [], i, hm => by simp at hm
  | e :: es, x :: L, i, hm => by
    simp only [List.map_cons, List.cons.injEq] at hm
    obtain ⟨hx, hm⟩ := hm
    obtain ⟨⟨c, d⟩, v⟩ := x
    have hk : e.key = keyV c d := congrArg Prod.fst hx
    have hv : e.val = .int .i64 v := congrArg Prod.snd hx
    have hq := h.eq a b c d w
    by_cases hc : a = c ∧ b = d
    · obtain ⟨rfl, rfl⟩ := hc
      refine .inr ⟨[], e, es, [], v, L, rfl, rfl, rfl, hx, hm, ?_⟩
      simp [Instr.findAsking, hk, hq, hv]
    · have hf : (a == c && b == d) = false := by
        simp only [Bool.and_eq_false_iff, beq_eq_false_iff_ne]
        by_cases h1 : a = c
        · exact .inr (fun h2 => hc ⟨h1, h2⟩)
        · exact .inl h1
      rw [hf] at hq
      rcases find_run h a b w es L (i + 1) hm with ⟨h1, h2⟩ | ⟨e1, e', e2, L1, v', L2, rfl, rfl, h3, h4, h5, h6⟩
      · refine .inl ⟨by simp [Instr.findAsking, hk, hq, h1], fun y hy => ?_⟩
        rcases List.mem_cons.1 hy with rfl | hy
        · simp only [ne_eq, Prod.mk.injEq]; exact fun h => hc ⟨h.1.symm, h.2.symm⟩
        · exact h2 y hy
      · refine .inr ⟨e :: e1, e', e2, ((c, d), v) :: L1, v', L2, rfl, rfl, by simp only [List.map_cons, h3, hx], h4, h5, ?_⟩
        simp [Instr.findAsking, hk, hq, h6]; omega

/-- block b is a map that is f -/
def MapOf (w : World) (b : Nat) (f : Int → Int → Option Int) : Prop :=
  ∃ (es : Array MapEntry) (clock : Nat) (L : List ((Int × Int) × Int)), w.heap[b]? = some (.map es clock) ∧ es.toList.map kvE = L.map kvL ∧ (L.map Prod.fst).Nodup ∧ ∀ c d v, f c d = some v ↔ ((c, d), v) ∈ L
def updF (f : Int → Int → Option Int) (a b : Int) (o : Option Int) : Int → Int → Option Int := fun c d => if c = a ∧ d = b then o else f c d

theorem MapOf.lt {w : World} {b : Nat} {f : Int → Int → Option Int} (h : MapOf w b f) : b < w.heap.size := by
  obtain ⟨es, clock, L, h1, _⟩ := h
  exact (Array.getElem?_eq_some_iff.1 h1).1
theorem MapOf.of {w w' : World} {b : Nat} {f : Int → Int → Option Int} (h : MapOf w b f) (he : w'.heap[b]? = w.heap[b]?) : MapOf w' b f := by
  obtain ⟨es, clock, L, h1, h2⟩ := h
  exact ⟨es, clock, L, he.trans h1, h2⟩
theorem MapOf.new (w : World) : MapOf (w.alloc (.map #[] 0)) w.heap.size (fun _ _ => none) :=
  ⟨#[], 0, [], (MapKept.heap_alloc w _).1, rfl, List.nodup_nil, by simp⟩

/-- block b turned -/
def putM (w : World) (b : Nat) (o : Obj) : World := { w with heap := w.heap.setIfInBounds b o }
theorem putM_same {w : World} {b : Nat} {o : Obj} (h : b < w.heap.size) : (putM w b o).heap[b]? = some o := by simp [putM, h]
theorem putM_other {w : World} {b k : Nat} {o : Obj} (h : k ≠ b) : (putM w b o).heap[k]? = w.heap[k]? := by simp [putM, Array.getElem?_setIfInBounds, Ne.symm h]
theorem putM_size (w : World) (b : Nat) (o : Obj) : (putM w b o).heap.size = w.heap.size := by simp [putM]
theorem putM_kept {D : Nat → Prop} (w : World) {b : Nat} (hb : D b) (o : Obj) : Kept D w (putM w b o) := ⟨rfl, rfl, rfl, by simp [putM], fun k _ hd => putM_other (fun e => hd (e ▸ hb))⟩
theorem run_put {P : Program} {w : World} {b : Nat} {es : Array MapEntry} {clock : Nat} (h : w.heap[b]? = some (.map es clock)) (o' : Obj) : (setObj b o').run P w = .ok () (putM w b o') := MapKept.run_setObj_map o' h

theorem MapOf.look {P : Program} {T K E : TypeId} (hk : HK P T K E) {w : World} {m : Nat} {f : Int → Int → Option Int} (h : MapOf w m f) (a b : Int) :
    (Instr.lookup T (.map (some m)) (keyV a b) true).run P w = .ok (.tuple #[.int .i64 ((f a b).getD 0), .bool (f a b).isSome]) w := by
  obtain ⟨es, clock, L, h1, h2, h3, h4⟩ := h
  have hu := run_underlying (P := P) (w := w) hk.ht
  rcases find_run hk a b w es.toList L 0 h2 with ⟨hr, hn⟩ | ⟨e1, e, e2, L1, v, L2, _, rfl, _, _, _, hr⟩
  · have hf : f a b = none := by
      cases hf : f a b with
      | none => rfl
      | some v => exact absurd rfl (hn _ ((h4 a b v).1 hf))
    rw [hf]
    simp [Instr.lookup, hu, MapKept.run_getObj_map h1, hk.ck, hk.fk, hr, hk.zr]
  · have hf : f a b = some v := (h4 a b v).2 (by simp)
    rw [hf]
    simp [Instr.lookup, hu, MapKept.run_getObj_map h1, hk.ck, hk.fk, hr]

theorem modify_mid {α : Type} (f : α → α) (e : α) (e2 : List α) : ∀ e1 : List α, (e1 ++ e :: e2).modify e1.length f = e1 ++ f e :: e2
  | [] => by simp
  | x :: l => by simp [modify_mid f e e2 l]

theorem same_key (a b : Int) : Instr.sameBits 10000 (keyV a b) (keyV a b) = true := by simp [keyV, Instr.sameBits]

theorem MapOf.write {P : Program} {T K E : TypeId} (hk : HK P T K E) {w : World} {m : Nat} {f : Int → Int → Option Int} (h : MapOf w m f) (a b v : Int) :
    ∃ o, (Instr.mapUpdate T (.map (some m)) (keyV a b) (.int .i64 v)).run P w = .ok () (putM w m o) ∧ MapOf (putM w m o) m (updF f a b (some v)) := by
  obtain ⟨es, clock, L, h1, h2, h3, h4⟩ := h
  have hu := run_underlying (P := P) (w := w) hk.ht
  have hlt : m < w.heap.size := (Array.getElem?_eq_some_iff.1 h1).1
  rcases find_run hk a b w es.toList L 0 h2 with ⟨hr, hn⟩ | ⟨e1, e, e2, L1, v0, L2, he, rfl, k1, k2, k3, hr⟩
  · refine ⟨.map (es.push { key := keyV a b, val := .int .i64 v, born := clock }) (clock + 1), by simp [Instr.mapUpdate, hu, MapKept.run_getObj_map h1, hk.ck, hk.fk, hr, run_put h1], _, _, L ++ [((a, b), v)], putM_same hlt, ?_, ?_, ?_⟩
    · simp only [Array.toList_push, List.map_append, h2, List.map_cons, List.map_nil]; rfl
    · rw [List.map_append, List.nodup_append]
      refine ⟨h3, by simp, fun x hx y hy => ?_⟩
      simp only [List.map_cons, List.map_nil, List.mem_singleton] at hy
      subst hy
      obtain ⟨z, hz, rfl⟩ := List.mem_map.1 hx
      exact hn z hz
    · intro c d u
      unfold updF
      by_cases hc : c = a ∧ d = b
      · obtain ⟨rfl, rfl⟩ := hc
        simp only [and_self, if_true, Option.some.injEq, List.mem_append, List.mem_singleton, Prod.mk.injEq, true_and]
        exact ⟨fun e => .inr e.symm, fun e => by rcases e with e | e; · exact absurd rfl (hn _ e)
                                                 · exact e.symm⟩
      · rw [if_neg hc, h4]
        simp only [List.mem_append, List.mem_singleton, Prod.mk.injEq]
        exact ⟨.inl, fun e => by rcases e with e | e; · exact e
                                 · exact absurd e.1 hc⟩
  · have hes : es[e1.length]? = some e := by rw [← Array.getElem?_toList, he]; simp
    have hkey : e.key = keyV a b := congrArg Prod.fst k2
    refine ⟨.map (es.modify e1.length fun e => { e with key := keyV a b, val := .int .i64 v }) clock, ?_, _, _, L1 ++ ((a, b), v) :: L2, putM_same hlt, ?_, ?_, ?_⟩
    · simp [Instr.mapUpdate, hu, MapKept.run_getObj_map h1, hk.ck, hk.fk, hr, hes, hkey, Instr.keyThatStays, same_key, run_put h1]
    · rw [Array.toList_modify, he]
      rw [modify_mid]
      simp only [List.map_append, List.map_cons, k1, k3]
      rfl
    · simpa using h3
    · intro c d u
      unfold updF
      simp only [List.map_append, List.map_cons, List.nodup_append, List.nodup_cons, List.mem_map, List.mem_cons] at h3
      by_cases hc : c = a ∧ d = b
      · obtain ⟨rfl, rfl⟩ := hc
        simp only [and_self, if_true, Option.some.injEq, List.mem_append, List.mem_cons, Prod.mk.injEq, true_and]
        refine ⟨fun e => .inr (.inl e.symm), fun e => ?_⟩
        rcases e with e | e | e
        · exact absurd rfl (h3.2.2 (c, d) ⟨_, e, rfl⟩ (c, d) (.inl rfl))
        · exact e.symm
        · exact absurd ⟨_, e, rfl⟩ h3.2.1.1
      · rw [if_neg hc, h4]
        simp only [List.mem_append, List.mem_cons, Prod.mk.injEq]
        constructor
        · rintro (e | e | e)
          · exact .inl e
          · exact absurd e.1 hc
          · exact .inr (.inr e)
        · rintro (e | e | e)
          · exact .inl e
          · exact absurd e.1 hc
          · exact .inr (.inr e)

theorem MapOf.drop {P : Program} {T K E : TypeId} (hk : HK P T K E) {w : World} {m : Nat} {f : Int → Int → Option Int} (h : MapOf w m f) (a b : Int) (ts : Array TypeId) (t : TypeId) (hts : ts[0]? = some T) :
    ∃ o, (Builtin.delete_ ts t #[.map (some m), keyV a b]).run P w = .ok (.tuple #[]) (putM w m o) ∧ MapOf (putM w m o) m (updF f a b none) := by
  obtain ⟨es, clock, L, h1, h2, h3, h4⟩ := h
  have hu := run_underlying (P := P) (w := w) hk.ht
  have hlt : m < w.heap.size := (Array.getElem?_eq_some_iff.1 h1).1
  rcases find_run hk a b w es.toList L 0 h2 with ⟨hr, hn⟩ | ⟨e1, e, e2, L1, v0, L2, he, rfl, k1, k2, k3, hr⟩
  · refine ⟨.map es clock, by simp [Builtin.delete_, hts, hu, MapKept.run_getObj_map h1, hk.ck, hk.fk, hr, run_put h1], _, _, L, putM_same hlt, h2, h3, ?_⟩
    intro c d u
    unfold updF
    by_cases hc : c = a ∧ d = b
    · rw [if_pos hc]
      obtain ⟨rfl, rfl⟩ := hc
      exact ⟨fun e => (by cases e), fun e => absurd rfl (hn _ e)⟩
    · rw [if_neg hc, h4]
  · have hes : e1.length < es.size := by rw [← Array.length_toList, he]; simp
    refine ⟨.map (es.eraseIdxIfInBounds e1.length) clock, ?_, _, _, L1 ++ L2, putM_same hlt, ?_, ?_, ?_⟩
    · simp [Builtin.delete_, hts, hu, MapKept.run_getObj_map h1, hk.ck, hk.fk, hr, run_put h1]
    · have : (es.eraseIdxIfInBounds e1.length).toList = e1 ++ e2 := by
        rw [Array.eraseIdxIfInBounds_eq, dif_pos hes, Array.toList_eraseIdx, he]
        simp [List.eraseIdx_append_of_length_le]
      rw [this, List.map_append, List.map_append, k1, k3]
    · simp only [List.map_append, List.map_cons, List.nodup_append, List.nodup_cons] at h3 ⊢
      exact ⟨h3.1, h3.2.1.2, fun x hx y hy => h3.2.2 x hx y (List.mem_cons_of_mem _ hy)⟩
    · intro c d u
      unfold updF
      simp only [List.map_append, List.map_cons, List.nodup_append, List.nodup_cons, List.mem_map, List.mem_cons] at h3
      by_cases hc : c = a ∧ d = b
      · rw [if_pos hc]
        obtain ⟨rfl, rfl⟩ := hc
        refine ⟨fun e => (by cases e), fun e => ?_⟩
        rcases List.mem_append.1 e with e | e
        · exact absurd rfl (h3.2.2 (c, d) ⟨_, e, rfl⟩ (c, d) (.inl rfl))
        · exact absurd ⟨_, e, rfl⟩ h3.2.1.1
      · rw [if_neg hc, h4]
        simp only [List.mem_append, List.mem_cons, Prod.mk.injEq]
        constructor
        · rintro (e | e | e)
          · exact .inl e
          · exact absurd e.1 hc
          · exact .inr e
        · rintro (e | e)
          · exact .inl e
          · exact .inr (.inr e)

theorem check_holder (em : Bool) (n : Nat) (a b : Int) (w : World) : (Instr.checkKey em (n + 1 + 1) 96 (.agg #[.int .i64 a, .int .i64 b])).run Tryz.prog w = .ok () w := by
  have u3 := Tryz.underlying3
  rw [Instr.checkKey]
  simp only [Sem.run_bind, run_underlying Tryz.underlying96, Result.andThen_ok]
  go_simp
  simp only [Instr.checkKey]
  go_simp

set_option maxRecDepth 100000 in
/-- the program's own map of who holds what -/
theorem holds_map : HK Tryz.prog 90 96 94 := by
  have hS : Tryz.prog.underlying 96 = some (.struct (Tryz.prog.fieldsOf 96)) := by kernel_rfl
  refine ⟨Tryz.underlying90, ?_, ?_, ?_, ?_⟩
  · intro a b c d w
    unfold keyV Op.equal Op.maxDepth
    rw [show (10000 : Nat) = 9999 + 1 from rfl, run_equalIn_agg w 9999 96 _ _ hS (by kernel_rfl)]
    simp only [Program.fieldsOf, Tryz.underlying96]
    go_simp
    by_cases h1 : a = c <;> by_cases h2 : b = d <;> simp [h1, h2]
  · intro em a b w
    exact check_holder em 9998 a b w
  · intro x es w
    exact run_findKey_eq (w := w) (by kernel_rfl) x es
  · intro w
    go_simp

end Go.Proofs.YtpamjkkghghggaaGreat

/-
  The program's desk: its words in an array, its holders in a map.
-/
namespace Go.Proofs.YtpamjkkghghggaaGreat
open Go.RowKit
set_option linter.unusedSimpArgs false
set_option linter.unusedVariables false

/-- who holds what, as the map has it -/
def heldF (hs : List Int) : Int → Int → Option Int := fun a b => if (0 ≤ a ∧ a ≤ 2) ∧ (0 ≤ b ∧ b ≤ 1) then (if getZ hs (a * 2 + b) = -1 then none else some (getZ hs (a * 2 + b))) else none
def deskC (ws : List Int) (H : Nat) : Array Value := (ws.map (Value.int .i64) ++ [Value.map (some H)]).toArray
structure Desk (w : World) (D H : Nat) (s : Stt) : Prop where
  box : w.heap[D]? = some (.cells (deskC s.words H) 93 (0, 0))
  map : MapOf w H (heldF s.holds)
  wl : s.words.length = 64
  hl : s.holds.length = 6
  hin : ∀ h ∈ s.holds, -1 ≤ h ∧ h ≤ 63
theorem Desk.ne {w : World} {D H : Nat} {s : Stt} (h : Desk w D H s) : D ≠ H := by
  intro e
  subst e
  obtain ⟨es, clock, L, h1, _⟩ := h.map
  have := h.box
  rw [h1] at this
  cases this
theorem Desk.ltD {w : World} {D H : Nat} {s : Stt} (h : Desk w D H s) : D < w.heap.size := heap_lt h.box
theorem Desk.ltH {w : World} {D H : Nat} {s : Stt} (h : Desk w D H s) : H < w.heap.size := h.map.lt
theorem Desk.of {w w' : World} {D H : Nat} {s : Stt} (h : Desk w D H s) (h1 : w'.heap[D]? = w.heap[D]?) (h2 : w'.heap[H]? = w.heap[H]?) : Desk w' D H s :=
  ⟨h1.trans h.box, h.map.of h2, h.wl, h.hl, h.hin⟩
theorem Desk.gr {w w' : World} {D H : Nat} {s : Stt} (h : Desk w D H s) (hb : Below w.heap.size w w') : Desk w' D H s := h.of (hb.block _ h.ltD) (hb.block _ h.ltH)
theorem Desk.word {w : World} {D H : Nat} {s : Stt} (h : Desk w D H s) (a : Nat) (ha : a < 64) : w.cell? ⟨D, a, none⟩ = some (.int .i64 (getZ s.words a)) := by
  have hl := h.wl
  rw [heap_cell h.box a]
  unfold deskC getZ
  simp [List.getElem?_append_left, hl, ha, List.getD_eq_getElem?_getD]
theorem Desk.mapc {w : World} {D H : Nat} {s : Stt} (h : Desk w D H s) : w.cell? ⟨D, 64, none⟩ = some (.map (some H)) := by
  have hl := h.wl
  rw [heap_cell h.box 64]
  unfold deskC
  simp [List.getElem?_append_right, hl]
theorem Desk.free {w : World} {D H : Nat} {s : Stt} (h : Desk w D H s) (a : Nat) : w.frozen? ⟨D, a, none⟩ = false := heap_free h.box a

theorem isHeld_any (D H : Nat) (s : Stt) (a b adr : Int) (w : World) (h : Desk w D H s) :
    Calls Tryz.prog 119 #[.pointer (some ⟨D, 0, none⟩), keyV a b, .int .i64 adr] w fun e w' => e = .returned (.bool (decide (heldF s.holds a b = some adr))) ∧ Below w.heap.size w w' := by
  have hbl : ∀ o, Below w.heap.size w (w.alloc o) := fun o => (Below.refl _ w).alloc (Nat.le_refl _) o
  have hd := h.gr (hbl (.cells #[.int .i64 a, .int .i64 b] 96))
  have hc := hd.mapc
  have hlk := fun n => (hd.map.of (w' := (w.alloc (.cells #[.int .i64 a, .int .i64 b] 96)).drewN n) rfl).look holds_map a b
  unfold keyV at hlk ⊢
  cases hf : heldF s.holds a b with
  | none =>
    rw [hf] at hlk
    simp only [Option.getD_none, Option.isSome_none] at hlk
    go_enter Tryz.func119, Tryz.ntmps119
    go_wp2_with fail
    go_quiet (fail)
    go_wp2
    go_ret
    exact ⟨by simp, below_drewN (hbl _) nq⟩
  | some v =>
    rw [hf] at hlk
    simp only [Option.getD_some, Option.isSome_some] at hlk
    have hq : (v == adr) = decide (v = adr) := by rw [Bool.eq_iff_iff]; simp
    go_enter Tryz.func119, Tryz.ntmps119
    go_wp2_with fail
    go_quiet (fail)
    go_wp2
    go_ret
    exact ⟨by simp [hq], below_drewN (hbl _) nq⟩

theorem held_at {hs : List Int} {p : Int} (h0 : 0 ≤ p) (h1 : p ≤ 5) : heldF hs (p / 2) (p % 2) = if getZ hs p = -1 then none else some (getZ hs p) := by
  unfold heldF
  rw [if_pos (by omega), show p / 2 * 2 + p % 2 = p by omega]
theorem held_is {hs : List Int} {p a : Int} (h0 : 0 ≤ p) (h1 : p ≤ 5) (ha : 0 ≤ a) : decide (heldF hs (p / 2) (p % 2) = some a) = decide (getZ hs p = a) := by
  rw [held_at h0 h1, decide_eq_decide]
  split
  · exact ⟨fun h => (by cases h), fun h => by omega⟩
  · simp
theorem held_set {hs : List Int} {x y v : Int} (hl : hs.length = 6) (h0 : 0 ≤ x ∧ x ≤ 2) (h1 : 0 ≤ y ∧ y ≤ 1) : updF (heldF hs) x y (if v = -1 then none else some v) = heldF (hs.set (x * 2 + y).toNat v) := by
  funext c d
  unfold updF heldF
  by_cases hb : (0 ≤ c ∧ c ≤ 2) ∧ (0 ≤ d ∧ d ≤ 1)
  · rw [if_pos hb, if_pos hb]
    have hg : getZ (hs.set (x * 2 + y).toNat v) (c * 2 + d) = if c * 2 + d = x * 2 + y then v else getZ hs (c * 2 + d) := by
      unfold getZ
      have hn : (c * 2 + d).toNat < hs.length := by omega
      simp only [List.getD_eq_getElem?_getD, List.getElem?_set]
      by_cases h : c * 2 + d = x * 2 + y
      · rw [h] at hn ⊢; simp [hn]
      · rw [if_neg (by omega), if_neg h]
    rw [hg]
    by_cases hc : c = x ∧ d = y
    · obtain ⟨rfl, rfl⟩ := hc
      simp
    · have hx : ¬ (c * 2 + d = x * 2 + y) := by omega
      rw [if_neg hc]
      simp only [if_neg hx]
  · rw [if_neg hb, if_neg hb, if_neg (by omega)]
theorem held_drop {hs : List Int} {p : Int} (hl : hs.length = 6) (h0 : 0 ≤ p) (h1 : p ≤ 5) : updF (heldF hs) (p / 2) (p % 2) none = heldF (hs.set p.toNat (-1)) := by
  have := held_set (x := p / 2) (y := p % 2) (v := -1) hl (by omega) (by omega)
  rw [if_pos rfl, show p / 2 * 2 + p % 2 = p by omega] at this
  exact this

theorem getZ_nat {l : List Int} {k : Nat} (h : k < l.length) : getZ l (k : Int) = l[k] := by
  simp [getZ, List.getD_eq_getElem?_getD, h]

set_option maxRecDepth 100000 in
set_option maxHeartbeats 1000000 in
theorem free_any (D H : Nat) (s : Stt) (a : Int) (w : World) (h : Desk w D H s) (ha : 0 ≤ a) :
    Calls Tryz.prog 106 #[.pointer (some ⟨D, 0, none⟩), .int .i64 a] w fun e w' => (∃ v, e = .returned v) ∧ Desk w' D H ⟨s.words, freeAll s.holds [a]⟩ ∧ Kept (fun k => k = H) w w' := by
  have hHl := h.ltH
  have hDl := h.ltD
  have hne := h.ne
  have hl6 := h.hl
  have HD := Hid.intro h
  clear h
  go_enter Tryz.func106, Tryz.ntmps106
  go_wp2
  go_loopw [6] (fun i wr => ∃ k : Nat, k ≤ 6 ∧ i = .int .i64 k ∧ Hid (Desk wr D H ⟨s.words, mixF s.holds [a] k⟩) ∧ Hid (Kept (fun k => k = H) w wr)) (fun i _ => 6 - (intOf i).toNat)
  case atStart =>
    refine ⟨0, by omega, rfl, ?_, Kept.refl _ _⟩
    show Desk _ _ _ _
    rw [mixF_zero]; exact HD.out
  case round =>
    obtain ⟨k, hk, rfl, HO, HK⟩ := hrel
    by_cases hlt : k < 6
    · have hk0 : (0 : Int) ≤ (k : Int) := by omega
      have hk1 : (k : Int) < 6 := by omega
      have hml : (mixF s.holds [a] k).length = 6 := by rw [mixF_len _ _ _ (by omega)]; exact hl6
      have hat : getZ (mixF s.holds [a] k) (k : Int) = s.holds[k] := by
        have := mixF_at s.holds [a] k (by omega)
        unfold getZ
        simp [List.getD_eq_getElem?_getD, this]
      go_wp2_with fail
      refine (holderAt_any k wr hk0 (by omega)).mono ?_
      rintro e w1 ⟨rfl, hb1⟩
      have hs1 := hb1.size
      have HO1 := Hid.intro (HO.out.gr hb1)
      have HK1 := Hid.intro (HK.out.trans (Kept.of_below hb1))
      clear hb1 HO HK
      go_wp2_with fail
      have hbl : ∀ o, Below w1.heap.size w1 (w1.alloc o) := fun o => (Below.refl _ w1).alloc (Nat.le_refl _) o
      have HI := Hid.intro (fun W hW => isHeld_any D H ⟨s.words, mixF s.holds [a] k⟩ ((k : Int) / 2) ((k : Int) % 2) a W hW)
      unfold keyV at HI
      simp only [held_is hk0 (show (k : Int) ≤ 5 by omega) ha, hat] at HI
      refine (HI.out _ (HO1.out.gr (hbl _))).mono ?_
      rintro e w2 ⟨rfl, hb2⟩
      have hB2 : w2.heap[w1.heap.size]? = some (.cells #[.int .i64 ((k : Int) / 2), .int .i64 ((k : Int) % 2)] 96 (0, 0)) := (hb2.block _ (by simp)).trans (nw_at _ rfl)
      have hb2' := (hbl _).trans (hb2.mono (hbl _).size)
      have hD2 := HO1.out.gr hb2'
      have HK2 := Hid.intro (HK1.out.trans (Kept.of_below hb2'))
      clear hb2 hb2' HO1 HK1 HI hbl
      have b0 : w2.cell? ⟨w1.heap.size, 0, none⟩ = some (.int .i64 ((k : Int) / 2)) := heap_cell hB2 0
      have b1 : w2.cell? ⟨w1.heap.size, 1, none⟩ = some (.int .i64 ((k : Int) % 2)) := heap_cell hB2 1
      have hmc := hD2.mapc
      by_cases he : s.holds[k] = a
      · have hde : decide (s.holds[k] = a) = true := decide_eq_true he
        rw [hde]
        obtain ⟨o, hrun, hmap⟩ := (hD2.map.of (w' := w2.drew) rfl).drop holds_map ((k : Int) / 2) ((k : Int) % 2) #[90, 96] 0 rfl
        rw [held_drop hml hk0 (by omega)] at hmap
        unfold keyV at hrun
        have HD3 : Hid (Desk (putM w2.drew H o) D H ⟨s.words, mixF s.holds [a] (k + 1)⟩) := by
          have hst := mixF_step s.holds [a] k (by omega)
          rw [show free1 [a] s.holds[k] = -1 by unfold free1; rw [if_pos (by simp [he])]] at hst
          refine Hid.intro ⟨(putM_other hne).trans hD2.box, ?_, hD2.wl, ?_, ?_⟩
          · rw [← hst]; simpa using hmap
          · rw [← hst]; simp [hml]
          · show ∀ h ∈ mixF s.holds [a] (k + 1), -1 ≤ h ∧ h ≤ 63
            rw [← hst]
            intro x hx
            rcases List.mem_or_eq_of_mem_set hx with h | rfl
            · exact hD2.hin x h
            · omega
        have HK3 := Hid.intro ((HK2.out.trans (Kept.drew _ _)).trans (putM_kept (D := fun k => k = H) w2.drew rfl o))
        clear hmap hD2 HK2 hB2
        go_wp2_with fail
        go_region
        go_wp2
        go_roundw
        case rel => exact ⟨k + 1, by omega, by go_num, HD3, HK3⟩
        case measure => simp [intOf]; omega
      · have hde : decide (s.holds[k] = a) = false := decide_eq_false he
        rw [hde]
        have HD3 : Hid (Desk w2 D H ⟨s.words, mixF s.holds [a] (k + 1)⟩) := by
          have hst := mixF_step s.holds [a] k (by omega)
          rw [show free1 [a] s.holds[k] = s.holds[k] by unfold free1; rw [if_neg (by simp [he])]] at hst
          have hsame : (mixF s.holds [a] k).set k s.holds[k] = mixF s.holds [a] k := by
            have h1 := mixF_at s.holds [a] k (by omega)
            apply List.ext_getElem?
            intro i
            rw [List.getElem?_set]
            by_cases hki : k = i
            · subst hki; rw [h1]; simp [hml, hlt]
            · simp [hki]
          rw [hsame] at hst
          rw [← hst]; exact Hid.intro hD2
        clear hD2 hB2
        go_wp2
        go_roundw
        case rel => exact ⟨k + 1, by omega, by go_num, HD3, HK2⟩
        case measure => simp [intOf]; omega
    · have hk' : k = 6 := by omega
      subst hk'
      have hO := HO.out
      rw [show (6 : Nat) = s.holds.length from hl6.symm, mixF_all] at hO
      have HO2 := Hid.intro hO
      clear hO HO
      go_wp2
      go_end0
      exact ⟨⟨_, rfl⟩, HO2.out, HK.out⟩

theorem desk_zero (H : Nat) : Tryz.zeroCells93.setIfInBounds 64 (Value.map (some H)) = deskC (noughts 64) H := by
  rfl
theorem deskC_size (ws : List Int) (H : Nat) (h : ws.length = 64) : (deskC ws H).size = 65 := by simp [deskC, h]
theorem desk_copied {us ws : List Int} (H : Nat) (hu : us.length = 64) (hw : ws.length = 64) : ((deskC us H).toList.take 0 ++ ws.map (Value.int .i64) ++ (deskC us H).toList.drop (0 + (ws.map (Value.int .i64)).length)).toArray = deskC ws H := by
  unfold deskC
  simp [hw, List.drop_append, hu]
theorem held_none : heldF (freeH 6) = fun _ _ => none := by
  funext a b
  unfold heldF
  split
  · rename_i h
    have : getZ (freeH 6) (a * 2 + b) = -1 := by
      have hn : (a * 2 + b).toNat < (freeH 6).length := by simp [freeH]; omega
      unfold getZ
      rw [List.getD_eq_getElem?_getD, List.getElem?_eq_getElem hn]
      simp only [freeH, List.getElem_replicate, Option.getD_some]
    rw [if_pos this]
  · rfl
/-- the first k are laid -/
def mixO (hs : List Int) (k : Nat) : List Int := hs.take k ++ freeH (6 - k)
theorem mixO_len {hs : List Int} (h : hs.length = 6) {k : Nat} (hk : k ≤ 6) : (mixO hs k).length = 6 := by simp [mixO, freeH]; omega
theorem mixO_zero (hs : List Int) : mixO hs 0 = freeH 6 := by simp [mixO]
theorem mixO_all {hs : List Int} (h : hs.length = 6) : mixO hs 6 = hs := by simp [mixO, freeH, List.take_of_length_le, h]
theorem mixO_at {hs : List Int} (h : hs.length = 6) {k : Nat} (hk : k < 6) : (mixO hs k)[k]? = some (-1) := by
  unfold mixO
  rw [List.getElem?_append_right (by simp; omega)]
  have : k - (hs.take k).length = 0 := by simp; omega
  rw [this]
  have e : freeH (6 - k) = -1 :: freeH (6 - (k + 1)) := by
    rw [show 6 - k = (6 - (k + 1)) + 1 by omega]; simp [freeH, List.replicate_succ]
  rw [e]; rfl
theorem mixO_step {hs : List Int} (h : hs.length = 6) {k : Nat} (hk : k < 6) : (mixO hs k).set k hs[k] = mixO hs (k + 1) := by
  have hl : (hs.take k).length = k := by simp; omega
  have e : freeH (6 - k) = -1 :: freeH (6 - (k + 1)) := by
    rw [show 6 - k = (6 - (k + 1)) + 1 by omega]; simp [freeH, List.replicate_succ]
  unfold mixO
  rw [e, List.set_append_right _ _ (by omega), hl, Nat.sub_self, List.take_succ_eq_append_getElem (show k < hs.length by omega), List.append_assoc]
  rfl
theorem mixO_in {hs : List Int} (hin : ∀ h ∈ hs, -1 ≤ h ∧ h ≤ 63) (k : Nat) : ∀ h ∈ mixO hs k, -1 ≤ h ∧ h ≤ 63 := by
  intro h hm
  rcases List.mem_append.1 hm with h' | h'
  · exact hin h (List.mem_of_mem_take h')
  · simp [freeH] at h'; omega
theorem stOk_parts {s : Stt} (h : stOkB s = true) : s.words.length = 64 ∧ s.holds.length = 6 ∧ ∀ x ∈ s.holds, -1 ≤ x ∧ x ≤ 63 := by
  simp only [stOkB, Bool.and_eq_true, decide_eq_true_eq] at h
  refine ⟨memOk_len h.1, h.2.1, ?_⟩
  have := h.2.2
  simp only [allIn, List.all_eq_true, inB, decide_eq_true_eq] at this
  exact this

/-- a region that turns the map at its operation L -/
def CM (H L : Nat) (f0 f1 : Int → Int → Option Int) (W0 : World) : (Nat → Bool) → World → Prop := fun d W => Kept (fun k => k = H) W0 W ∧ MapOf W H (if d L then f1 else f0)
theorem updB_ne (d : Nat → Bool) {i j : Nat} (h : j ≠ i) : updB d i j = d j := by simp [updB, h]
theorem updB_self (d : Nat → Bool) (i : Nat) : updB d i i = true := by simp [updB]
theorem CM.step {H L : Nat} {f0 f1 : Int → Int → Option Int} {W0 W : World} {d : Nat → Bool} {i : Nat} (hi : L ≠ i) (h : CM H L f0 f1 W0 d W) : CM H L f0 f1 W0 (updB d i) W := by
  unfold CM; rw [updB_ne d hi]; exact h
theorem CM.grow {H L : Nat} {f0 f1 : Int → Int → Option Int} {W0 W W' : World} {d : Nat → Bool} {i : Nat} (hi : L ≠ i) (h : CM H L f0 f1 W0 d W) (hg : Gr W W') : CM H L f0 f1 W0 (updB d i) W' := by
  unfold CM; rw [updB_ne d hi]; exact ⟨h.1.trans (Kept.of_below hg), h.2.of (hg.block _ h.2.lt)⟩
theorem CM.turn {H L : Nat} {f0 f1 : Int → Int → Option Int} {W0 W : World} {d : Nat → Bool} {o : Obj} (h : CM H L f0 f1 W0 d W) (hm : MapOf (putM W H o) H f1) : CM H L f0 f1 W0 (updB d L) (putM W H o) := by
  unfold CM; rw [updB_self, if_pos rfl]; exact ⟨h.1.trans (putM_kept (D := fun k => k = H) W rfl o), hm⟩
theorem CM.old {H L : Nat} {f0 f1 : Int → Int → Option Int} {W0 W : World} {d : Nat → Bool} (h : CM H L f0 f1 W0 d W) (hd : d L = false) : MapOf W H f0 := by
  have := h.2; rw [hd] at this; exact this
theorem CM.new {H L : Nat} {f0 f1 : Int → Int → Option Int} {W0 W : World} {d : Nat → Bool} (h : CM H L f0 f1 W0 d W) (hd : d L = true) : MapOf W H f1 := by
  have := h.2; rw [hd] at this; exact this

end Go.Proofs.YtpamjkkghghggaaGreat

/-
  atmOpen and state of the program: a desk is laid, and read.
-/
namespace Go.Proofs.YtpamjkkghghggaaGreat
open Go.RowKit
set_option linter.unusedSimpArgs false
set_option linter.unusedVariables false

def fl_openW (D H : Nat) (k : Nat) (v : Int) : List Fact := [
  fIs 27 (.pointer (some ⟨D, 0, none⟩)),
  fIs 28 (.pointer (some ⟨D, 0, none⟩)),
  fIs 29 (.pointer (some ⟨D, 64, none⟩)),
  fIs 30 (.map (some H)),
  fIs 31 (.int .i64 (k : Int)),
  fIs 32 (.agg #[.int .i64 ((k : Int) / 2), .int .i64 ((k : Int) % 2)]),
  fIs 33 (.int .i64 v),
  ⟨[], [], fun _ _ _ => True⟩]

theorem st_openW (D H : Nat) (k : Nat) (v : Int) : ∀ F ∈ fl_openW D H k v, F.Stab :=
  stab_cons (fIs_stab _ _) <|
  stab_cons (fIs_stab _ _) <|
  stab_cons (fIs_stab _ _) <|
  stab_cons (fIs_stab _ _) <|
  stab_cons (fIs_stab _ _) <|
  stab_cons (fIs_stab _ _) <|
  stab_cons (fIs_stab _ _) <|
  stab_cons (fun _ _ _ _ _ h => h) stab_nil

theorem still_openW (D H : Nat) (k : Nat) (v : Int) : ∀ j s d w w', (factsOf (fl_openW D H k v) j).body s d w → (factsOf (fl_openW D H k v) j).body s d w' := by
  intro j s d w w' hb
  rcases j with _ | _ | _ | _ | _ | _ | _ | _ | j
  all_goals exact hb

set_option maxRecDepth 100000 in
set_option maxHeartbeats 1000000 in
theorem deskOpen_any (s : Stt) (pw ph : Option Addr) (cw ch : Nat) (w : World) (h : StAt w s pw cw ph ch) (hok : stOkB s = true) :
    Calls Tryz.prog 37 #[stV s pw cw ph ch] w fun e w' => ∃ D H, e = .returned (.pointer (some ⟨D, 0, none⟩)) ∧ Desk w' D H s ∧ w.heap.size ≤ D ∧ w.heap.size ≤ H ∧ Below w.heap.size w w' := by
  obtain ⟨hw64, hh6, hin⟩ := stOk_parts hok
  have HIN := Hid.intro hin
  have HA := Hid.intro h
  obtain ⟨i0, hi, hz0, hz1, hz2⟩ := info_parts Tryz.infoInt
  have hsz : (Tryz.prog.info? 3).map (·.size) = some 1 := by rw [hi]; simp [hz1]
  clear h hok hin
  obtain ⟨ws, hs⟩ := s
  simp only at hw64 hh6
  rcases HA.out.words with hx | ⟨b, off, rfl, hb, hcells⟩
  · simp only at hx; subst hx; simp at hw64
  unfold stV
  simp only
  rw [hw64, hh6]
  have hmm := @run_makeMap Tryz.prog
  go_enter Tryz.func37, Tryz.ntmps37
  go_wp2_with fail
  rw [desk_zero]
  obtain ⟨W0, hW0⟩ : ∃ W0, (((w.alloc (Obj.cells #[.slice (some ⟨b, off, none⟩) 64 cw, .slice ph 6 ch] 34)).alloc (Obj.map #[] 0)).alloc (Obj.cells (deskC (noughts 64) (w.heap.size + 1)) 93)) = W0 := ⟨_, rfl⟩
  have hs0 : W0.heap.size = w.heap.size + 3 := by rw [← hW0]; simp
  have hb0 : Below w.heap.size w W0 := by rw [← hW0]; exact (((Below.refl _ w).alloc (Nat.le_refl _) _).alloc (by simp) _).alloc (by simp; omega) _
  have hB0 : W0.heap[w.heap.size]? = some (.cells #[.slice (some ⟨b, off, none⟩) 64 cw, .slice ph 6 ch] 34 (0, 0)) := by rw [← hW0]; exact (Below.heap_alloc _ _ _ (by simp; omega)).trans ((Below.heap_alloc _ _ _ (by simp)).trans (nw_at _ rfl))
  have hH0 : MapOf W0 (w.heap.size + 1) (fun _ _ => none) := by
    rw [← hW0]
    have := MapOf.new (w.alloc (Obj.cells #[.slice (some ⟨b, off, none⟩) 64 cw, .slice ph 6 ch] 34))
    rw [World.size_alloc] at this
    exact this.of (Below.heap_alloc _ _ _ (by simp))
  have hD0 : W0.heap[w.heap.size + 1 + 1]? = some (.cells (deskC (noughts 64) (w.heap.size + 1)) 93 (0, 0)) := by rw [← hW0]; exact nw_at _ (by simp)
  rw [hW0]
  clear hW0
  have c0 : W0.cell? ⟨w.heap.size, 0, none⟩ = some (.slice (some ⟨b, off, none⟩) 64 cw) := heap_cell hB0 0
  have hsrc : ∀ j v, (ws.map (Value.int .i64))[j]? = some v → W0.drew.cell? ((⟨b, off, none⟩ : Addr).add j) = some v := by
    intro j v hj
    simp only [List.getElem?_map, Option.map_eq_some_iff] at hj
    obtain ⟨x, hx, rfl⟩ := hj
    obtain ⟨hjl, rfl⟩ := List.getElem?_eq_some_iff.1 hx
    rw [Addr.add_lit]
    exact (hb0.cell (p := ⟨b, off + j, none⟩) hb).trans (hcells j hjl)
  have hcp := run_copy_row (P := Tryz.prog) W0.drew 23 23 3 3 (w.heap.size + 1 + 1) 0 64 64 ⟨b, off, none⟩ 64 cw (deskC (noughts 64) (w.heap.size + 1)) 93 (ws.map (Value.int .i64)) Tryz.underlying23 hsz hD0 (by simp [hw64]) hsrc (by rw [deskC_size _ _ (by simp [noughts])]; simp [hw64]) (by intro v hv; obtain ⟨x, _, rfl⟩ := List.mem_map.1 hv; rfl)
  rw [desk_copied _ (by simp [noughts]) hw64] at hcp
  clear hsrc hcells
  go_region
  obtain ⟨W1, hW1⟩ : ∃ W1, W0.drew.setRow (w.heap.size + 1 + 1) (deskC ws (w.heap.size + 1)) = W1 := ⟨_, rfl⟩
  have hs1 : W1.heap.size = w.heap.size + 3 := by rw [← hW1]; simpa using hs0
  have hb1 : Below w.heap.size w W1 := by
    rw [← hW1]
    exact hb0.trans ⟨rfl, rfl, rfl, by simp, fun k hk => setRow_other _ _ _ _ (by omega)⟩
  have hB1 : W1.heap[w.heap.size]? = some (.cells #[.slice (some ⟨b, off, none⟩) 64 cw, .slice ph 6 ch] 34 (0, 0)) := by rw [← hW1]; exact (setRow_other _ _ _ _ (by omega)).trans hB0
  have hDk : Desk W1 (w.heap.size + 1 + 1) (w.heap.size + 1) ⟨ws, freeH 6⟩ := by
    refine ⟨?_, ?_, hw64, by simp [freeH], by intro h hm; simp [freeH] at hm; omega⟩
    · rw [← hW1]; exact setRow_heap _ _ _ _ _ _ hD0
    · show MapOf W1 _ (heldF (freeH 6))
      rw [held_none, ← hW1]; exact hH0.of (setRow_other _ _ _ _ (by omega))
  rw [hW1]
  have c1 : W1.cell? ⟨w.heap.size, 1, none⟩ = some (.slice ph 6 ch) := heap_cell hB1 1
  clear hW1 hcp c0 hD0 hH0 hB0 hb0 hmm
  go_wp2_with fail
  go_loopw [20] (fun i wr => ∃ k : Nat, k ≤ 6 ∧ i = .int .i64 k ∧ Hid (Desk wr (w.heap.size + 1 + 1) (w.heap.size + 1) ⟨ws, mixO hs k⟩) ∧ Hid (Below w.heap.size w wr)) (fun i _ => 6 - (intOf i).toNat)
  case atStart =>
    refine ⟨0, by omega, rfl, ?_, hb1⟩
    show Desk _ _ _ _
    rw [mixO_zero]; exact hDk
  case round =>
    obtain ⟨k, hk, rfl, HO, HB⟩ := hrel
    by_cases hlt : k < 6
    · have hk0 : (0 : Int) ≤ (k : Int) := by omega
      have hk1 : (k : Int) < 6 := by omega
      have hk5 : (k : Int) ≤ 5 := by omega
      rcases HA.out.holds with hx | ⟨bh, oh, rfl, hbh, hch⟩
      · simp only at hx; rw [hx] at hh6; simp at hh6
      simp only at hch
      have cv : wr.cell? ⟨bh, oh + k, none⟩ = some (.int .i64 hs[k]) := (HB.out.cell (p := ⟨bh, oh + k, none⟩) hbh).trans (hch k (by omega))
      have hml := mixO_len hh6 hk
      have HST := Hid.intro (mixO_step hh6 hlt)
      have HAT := Hid.intro (mixO_at hh6 hlt)
      clear hch
      generalize hv : hs[k] = v at cv
      have HV := Hid.intro hv
      clear hv
      by_cases hm : v = -1
      · have hq : (v != -1) = false := by simp [hm]
        go_wp2
        go_roundw
        case rel =>
          refine ⟨k + 1, by omega, by go_num, ?_, HB⟩
          show Desk _ _ _ _
          have hsame : (mixO hs k).set k hs[k] = mixO hs k := by
            rw [HV.out, hm]
            apply List.ext_getElem?
            intro i
            rw [List.getElem?_set]
            by_cases hki : k = i
            · subst hki; rw [HAT.out]; simp [hml, hlt]
            · simp [hki]
          rw [← HST.out, hsame]; exact HO.out
        case measure => simp [intOf]; omega
      · have hq : (v != -1) = true := by simpa using hm
        have hvin : -1 ≤ v ∧ v ≤ 63 := by rw [← HV.out]; exact HIN.out _ (List.getElem_mem _)
        have hne := HO.out.ne
        have hDl := HO.out.ltD
        have hMC : ∀ W, Kept (fun k => k = w.heap.size + 1) wr W → W.cell? ⟨w.heap.size + 1 + 1, 64, none⟩ = some (.map (some (w.heap.size + 1))) := fun W hK => (hK.cell (p := ⟨_, 64, none⟩) hDl hne).trans HO.out.mapc
        have HF := Hid.intro (show updF (heldF (mixO hs k)) ((k : Int) / 2) ((k : Int) % 2) (some v) = heldF (mixO hs (k + 1)) by
          have := held_set (x := (k : Int) / 2) (y := (k : Int) % 2) (v := v) hml (by omega) (by omega)
          rw [if_neg hm, show (k : Int) / 2 * 2 + (k : Int) % 2 = (k : Int) by omega] at this
          rw [this, ← HST.out, HV.out]; simp)
        go_wp2_with fail
        refine wp_region_fl (by kernel_rfl) (fl_openW ((w.heap.size + 1 + 1)) ((w.heap.size + 1)) k v) (CM (w.heap.size + 1) 7 (heldF (mixO hs k)) (updF (heldF (mixO hs k)) ((k : Int) / 2) ((k : Int) % 2) (some v)) wr) [27, 28, 29, 30, 31, 32, 33] (by kernel_rfl) (by kernel_rfl) (by kernel_rfl) ?c0 ?looks ?done
        case looks =>
          intro hcl i o ho
          rcases i with _ | _ | _ | _ | _ | _ | _ | _ | i
          · simp at ho; subst ho
            refine fo_det (st_openW ((w.heap.size + 1 + 1)) ((w.heap.size + 1)) k v) hcl rfl rfl rfl rfl (by kernel_rfl) (fun _ _ h => CM.step (by decide) h) (fun done ρ W hat => ?_)
            have e3 : ρ (.tmp 3) = .pointer (some ⟨((w.heap.size + 1 + 1)), 0, none⟩) := hat.out 3 (by kernel_rfl)
            have hC := hat.cls
            have hc := hat.con
            simp only [execOp, e3]
            go_simp
          · simp at ho; subst ho
            refine fo_det (st_openW ((w.heap.size + 1 + 1)) ((w.heap.size + 1)) k v) hcl rfl rfl rfl rfl (by kernel_rfl) (fun _ _ h => CM.step (by decide) h) (fun done ρ W hat => ?_)
            have e27 : ρ (.tmp 27) = .pointer (some ⟨((w.heap.size + 1 + 1)), 0, none⟩) := fIs_at (d := 27) (v := .pointer (some ⟨((w.heap.size + 1 + 1)), 0, none⟩)) (hat.fact 0 (by kernel_rfl))
            have hC := hat.cls
            have hc := hat.con
            simp only [execOp, e27]
            go_simp
          · simp at ho; subst ho
            refine fo_det (st_openW ((w.heap.size + 1 + 1)) ((w.heap.size + 1)) k v) hcl rfl rfl rfl rfl (by kernel_rfl) (fun _ _ h => CM.step (by decide) h) (fun done ρ W hat => ?_)
            have e28 : ρ (.tmp 28) = .pointer (some ⟨((w.heap.size + 1 + 1)), 0, none⟩) := fIs_at (d := 28) (v := .pointer (some ⟨((w.heap.size + 1 + 1)), 0, none⟩)) (hat.fact 1 (by kernel_rfl))
            have hC := hat.cls
            have hc := hat.con
            simp only [execOp, e28]
            go_simp
          · simp at ho; subst ho
            refine fo_det (st_openW ((w.heap.size + 1 + 1)) ((w.heap.size + 1)) k v) hcl rfl rfl rfl rfl (by kernel_rfl) (fun _ _ h => CM.step (by decide) h) (fun done ρ W hat => ?_)
            have e29 : ρ (.tmp 29) = .pointer (some ⟨((w.heap.size + 1 + 1)), 64, none⟩) := fIs_at (d := 29) (v := .pointer (some ⟨((w.heap.size + 1 + 1)), 64, none⟩)) (hat.fact 2 (by kernel_rfl))
            have hC := hat.cls
            have c64 := hMC W hC.1
            have hc := hat.con
            simp only [execOp, e29]
            go_simp
          · simp at ho; subst ho
            refine fo_det (st_openW ((w.heap.size + 1 + 1)) ((w.heap.size + 1)) k v) hcl rfl rfl rfl rfl (by kernel_rfl) (fun _ _ h => CM.step (by decide) h) (fun done ρ W hat => ?_)
            have e4 : ρ (.tmp 4) = .int .i64 (k : Int) := hat.out 4 (by kernel_rfl)
            have hC := hat.cls
            have hc := hat.con
            simp only [execOp, e4]
            go_simp
          · simp at ho; subst ho
            refine fo_grow (st_openW ((w.heap.size + 1 + 1)) ((w.heap.size + 1)) k v) hcl rfl rfl (fun done ρ W hat => ?_)
            have e31 : ρ (.tmp 31) = .int .i64 (k : Int) := fIs_at (d := 31) (v := .int .i64 (k : Int)) (hat.fact 4 (by kernel_rfl))
            have hC := hat.cls
            have hf := hat.fn
            have hc := hat.con
            refine up_call 58 #[.int .i64 (k : Int)] (by simp only [execOp]; go_simp) ?_
            refine (holderAt_any (k : Int) W hk0 hk5).mono ?_
            rintro e W1 ⟨rfl, hb⟩
            exact ⟨_, rfl, CM.grow (by decide) hC hb, hb, fIs_mk (updV_same _ _ _), free_spec (by kernel_rfl) hat.lt⟩
          · simp at ho; subst ho
            refine fo_det (st_openW ((w.heap.size + 1 + 1)) ((w.heap.size + 1)) k v) hcl rfl rfl rfl rfl (by kernel_rfl) (fun _ _ h => CM.step (by decide) h) (fun done ρ W hat => ?_)
            have e5 : ρ (.tmp 5) = .int .i64 v := hat.out 5 (by kernel_rfl)
            have hC := hat.cls
            have hc := hat.con
            simp only [execOp, e5]
            go_simp
          · simp at ho; subst ho
            refine fo_rel (S := fun _ _ => True) (E := []) (fun jj _ ss dd wa wb _ hbd => still_openW ((w.heap.size + 1 + 1)) ((w.heap.size + 1)) k v jj ss dd wa wb hbd) hcl rfl rfl (fun done ρ W hat => ?_)
            have e30 : ρ (.tmp 30) = .map (some ((w.heap.size + 1))) := fIs_at (d := 30) (v := .map (some ((w.heap.size + 1)))) (hat.fact 3 (by kernel_rfl))
            have e32 : ρ (.tmp 32) = .agg #[.int .i64 ((k : Int) / 2), .int .i64 ((k : Int) % 2)] := fIs_at (d := 32) (v := .agg #[.int .i64 ((k : Int) / 2), .int .i64 ((k : Int) % 2)]) (hat.fact 5 (by kernel_rfl))
            have e33 : ρ (.tmp 33) = .int .i64 v := fIs_at (d := 33) (v := .int .i64 v) (hat.fact 6 (by kernel_rfl))
            have hC := hat.cls
            have hmo := hC.old hat.new
            obtain ⟨o, hrun, hmn⟩ := hmo.write holds_map ((k : Int) / 2) ((k : Int) % 2) v
            unfold keyV at hrun
            refine up_skip (putM W (w.heap.size + 1) o) (by simp only [execOp]; go_simp) ⟨hC.turn hmn, trivial, trivial, fun j hj hcj => ?_⟩
            exact free_spec (X := fun _ => _) (by kernel_rfl) hat.lt j hj (by simpa using hcj)
          · simp at ho
        case c0 => exact ⟨Kept.drew _ _, HO.out.map.of rfl⟩
        case done =>
          intro f W hC hf hout
          have hMN := hC.new (by decide)
          have hKW := hC.1
          have HD3 : Hid (Desk W (w.heap.size + 1 + 1) (w.heap.size + 1) ⟨ws, mixO hs (k + 1)⟩) := by
            refine Hid.intro ⟨(hKW.block _ hDl hne).trans HO.out.box, ?_, hw64, mixO_len hh6 (by omega), mixO_in HIN.out _⟩
            rw [HF.out] at hMN; exact hMN
          have HB3 := Hid.intro (HB.out.trans ⟨hKW.os, hKW.tape, hKW.output, hKW.size, fun i hi => hKW.block i (by have := HB.out.size; omega) (by omega)⟩)
          clear hC hf hMN hKW
          simp only [fill]
          go_simp
          go_wp2
          go_roundw
          case rel => exact ⟨k + 1, by omega, by go_num, HD3, HB3⟩
          case measure => simp [intOf]; omega
    · have hk' : k = 6 := by omega
      subst hk'
      have hO := HO.out
      rw [mixO_all hh6] at hO
      have HO2 := Hid.intro hO
      clear hO HO
      go_wp2
      go_ret
      exact ⟨w.heap.size + 1 + 1, w.heap.size + 1, rfl, HO2.out, by omega, by omega, HB.out⟩

end Go.Proofs.YtpamjkkghghggaaGreat

namespace Go.Proofs.YtpamjkkghghggaaGreat
open Go.RowKit
set_option linter.unusedSimpArgs false
set_option linter.unusedVariables false

def fl_stateL (D H : Nat) (k : Nat) (x : Int) (b : Bool) : List Fact := [
  fIs 23 (.pointer (some ⟨D, 0, none⟩)),
  fIs 24 (.pointer (some ⟨D, 0, none⟩)),
  fIs 25 (.pointer (some ⟨D, 64, none⟩)),
  fIs 26 (.map (some H)),
  fIs 27 (.int .i64 (k : Int)),
  fIs 28 (.agg #[.int .i64 ((k : Int) / 2), .int .i64 ((k : Int) % 2)]),
  fIs 29 (.tuple #[.int .i64 x, .bool b]),
  fIs 22 (.tuple #[.int .i64 x, .bool b]),
  fIs 30 (.int .i64 x),
  fIs 31 (.bool b),
  fIs 5 (.int .i64 x),
  fIs 6 (.bool b)]

theorem st_stateL (D H : Nat) (k : Nat) (x : Int) (b : Bool) : ∀ F ∈ fl_stateL D H k x b, F.Stab :=
  stab_cons (fIs_stab _ _) <|
  stab_cons (fIs_stab _ _) <|
  stab_cons (fIs_stab _ _) <|
  stab_cons (fIs_stab _ _) <|
  stab_cons (fIs_stab _ _) <|
  stab_cons (fIs_stab _ _) <|
  stab_cons (fIs_stab _ _) <|
  stab_cons (fIs_stab _ _) <|
  stab_cons (fIs_stab _ _) <|
  stab_cons (fIs_stab _ _) <|
  stab_cons (fIs_stab _ _) <|
  stab_cons (fIs_stab _ _) stab_nil

theorem orow_full {w : World} {g n : Nat} {l : List Value} (h : ORow 3 1 w g n n l) : ∃ cur, w.heap[g]? = some (.cells cur 3 (0, 0)) ∧ cur.size = n ∧ cur.toList = l := by
  obtain ⟨cur, h1, h2, h3, h4, h5⟩ := h
  refine ⟨cur, h1, by omega, ?_⟩
  rw [← h5, List.take_of_length_le (by simp; omega)]
theorem orow_of_full {w : World} {g n : Nat} {l : List Value} (h : w.heap[g]? = some (.cells l.toArray 3 (0, 0))) (hl : l.length = n) : ORow 3 1 w g n n l :=
  ⟨l.toArray, h, by simp; omega, Nat.le_refl _, by omega, by simp [List.take_of_length_le, hl]⟩

set_option maxRecDepth 100000 in
set_option maxHeartbeats 2000000 in
theorem state_any (D H : Nat) (s : Stt) (w : World) (h : Desk w D H s) :
    Calls Tryz.prog 39 #[.pointer (some ⟨D, 0, none⟩)] w fun e w' => ∃ g g', e = .returned (.agg #[.slice (some ⟨g, 0, none⟩) 64 64, .slice (some ⟨g', 0, none⟩) 6 6]) ∧ ORow 3 1 w' g 64 64 (s.words.map (Value.int .i64)) ∧ ORow 3 1 w' g' 6 6 (s.holds.map (Value.int .i64)) ∧ w.heap.size ≤ g ∧ w.heap.size ≤ g' ∧ g ≠ g' ∧ Below w.heap.size w w' := by
  have hbl : ∀ o, Below w.heap.size w (w.alloc o) := fun o => (Below.refl _ w).alloc (Nat.le_refl _) o
  obtain ⟨i0, hi, hz0, hz1, hz2⟩ := info_parts Tryz.infoInt
  have hsz : (Tryz.prog.info? 3).map (·.size) = some 1 := by rw [hi]; simp [hz1]
  have hDl := h.ltD
  have hHl := h.ltH
  have hw64 := h.wl
  have hh6 := h.hl
  obtain ⟨ws, hs⟩ := s
  simp only at hw64 hh6
  have HD := Hid.intro h
  clear h
  go_enter Tryz.func39, Tryz.ntmps39
  go_wp2_with fail
  refine (impl_AtmNew _).mono ?_
  rintro e w1 ⟨g, g', rfl, hg, hg', hgl, hgl', hgg, hb1⟩
  have hs1 := hb1.size
  simp at hs1 hgl hgl'
  have hlg := hg.lt
  have hlg' := hg'.lt
  have hR1 : w1.heap[w.heap.size]? = some (.cells #[.slice none 0 0, .slice none 0 0] 34 (0, 0)) := (hb1.block w.heap.size (by simp)).trans (nw_at _ rfl)
  have hb1' := (hbl _).trans (hb1.mono (hbl _).size)
  clear hb1 hbl
  go_wp2_with fail
  obtain ⟨W0, hW0⟩ : ∃ W0, w1.alloc (.cells #[.slice (some ⟨g, 0, none⟩) 64 64, .slice (some ⟨g', 0, none⟩) 6 6] 34) = W0 := ⟨_, rfl⟩
  have hx : Below w1.heap.size w1 W0 := by rw [← hW0]; exact (Below.refl _ _).alloc (Nat.le_refl _) _
  have hs0 : W0.heap.size = w1.heap.size + 1 := by rw [← hW0]; simp
  have hB0 : W0.heap[w1.heap.size]? = some (.cells #[.slice (some ⟨g, 0, none⟩) 64 64, .slice (some ⟨g', 0, none⟩) 6 6] 34 (0, 0)) := by rw [← hW0]; exact nw_at _ rfl
  have hR0 := (hx.block _ (by omega)).trans hR1
  have hb0 := hb1'.trans (hx.mono hb1'.size)
  have hg0 := hg.of (hx.block g hlg)
  have hg0' := hg'.of (hx.block g' hlg')
  rw [hW0]
  clear hW0 hx hg hg' hR1 hb1'
  have hD0 := HD.out.gr hb0
  have c0 : W0.cell? ⟨w1.heap.size, 0, none⟩ = some (.slice (some ⟨g, 0, none⟩) 64 64) := heap_cell hB0 0
  have hsrc : ∀ j v, (ws.map (Value.int .i64))[j]? = some v → W0.drew.cell? ((⟨D, 0, none⟩ : Addr).add j) = some v := by
    intro j v hj
    simp only [List.getElem?_map, Option.map_eq_some_iff] at hj
    obtain ⟨x, hx, rfl⟩ := hj
    obtain ⟨hjl, rfl⟩ := List.getElem?_eq_some_iff.1 hx
    rw [Addr.add_lit]
    have := hD0.word j (by omega)
    simp only [Nat.zero_add]
    rw [getZ_nat hjl] at this
    exact this
  obtain ⟨cur, k1, k2, k3⟩ := orow_full hg0
  have hcp := run_copy_row (P := Tryz.prog) W0.drew 23 23 3 3 g 0 64 64 ⟨D, 0, none⟩ 64 64 cur 3 (ws.map (Value.int .i64)) Tryz.underlying23 hsz k1 (by simp [hw64]) hsrc (by simp [hw64, k2]) (by intro v hv; obtain ⟨x, _, rfl⟩ := List.mem_map.1 hv; rfl)
  have hcc : (cur.toList.take 0 ++ ws.map (Value.int .i64) ++ cur.toList.drop (0 + (ws.map (Value.int .i64)).length)).toArray = (ws.map (Value.int .i64)).toArray := by
    simp [hw64, List.drop_of_length_le, k2]
  rw [hcc] at hcp
  clear hsrc hcc
  go_region
  obtain ⟨W1, hW1⟩ : ∃ W1, W0.drew.setRow g (ws.map (Value.int .i64)).toArray = W1 := ⟨_, rfl⟩
  have hz : W1.heap.size = W0.heap.size := by rw [← hW1]; simp
  have hoth : ∀ k, k ≠ g → W1.heap[k]? = W0.heap[k]? := fun k hk => by rw [← hW1]; exact setRow_other _ _ _ _ hk
  have hbW : Below w.heap.size w W1 := by rw [← hW1]; exact hb0.trans ⟨rfl, rfl, rfl, by simp, fun k hk => setRow_other _ _ _ _ (by omega)⟩
  have hgW : ORow 3 1 W1 g 64 64 (ws.map (Value.int .i64)) := orow_of_full (by rw [← hW1]; exact setRow_heap _ _ _ _ _ _ k1) (by simp [hw64])
  have hgW' : ORow 3 1 W1 g' 6 6 ((freeH 6).map (Value.int .i64)) := hg0'.of (hoth _ (Ne.symm hgg))
  have hBW := (hoth w1.heap.size (by omega)).trans hB0
  have hRW := (hoth w.heap.size (by omega)).trans hR0
  rw [hW1]
  clear hW1 hcp c0 hoth k1 k2 k3 hg0 hg0' hB0 hR0 hb0 hD0
  have c1 : W1.cell? ⟨w1.heap.size, 1, none⟩ = some (.slice (some ⟨g', 0, none⟩) 6 6) := heap_cell hBW 1
  go_wp2_with fail
  go_loopw [19] (fun i wr => ∃ k : Nat, k ≤ 6 ∧ i = .int .i64 k ∧ Hid (ORow 3 1 wr g 64 64 (ws.map (Value.int .i64))) ∧ Hid (ORow 3 1 wr g' 6 6 ((mixO hs k).map (Value.int .i64))) ∧ Hid (Below w.heap.size w wr) ∧ wr.heap[w1.heap.size]? = some (.cells #[.slice (some ⟨g, 0, none⟩) 64 64, .slice (some ⟨g', 0, none⟩) 6 6] 34 (0, 0)) ∧ wr.heap[w.heap.size]? = some (.cells #[.slice none 0 0, .slice none 0 0] 34 (0, 0))) (fun i _ => 6 - (intOf i).toNat)
  case atStart =>
    refine ⟨0, by omega, rfl, hgW, ?_, hbW, hBW, hRW⟩
    show ORow _ _ _ _ _ _ _
    rw [mixO_zero]; exact hgW'
  case round =>
    clear hgW hgW' hbW hBW hRW c1
    obtain ⟨k, hk, rfl, HG, HG', HB, hB, hR⟩ := hrel
    by_cases hlt : k < 6
    · have hk0 : (0 : Int) ≤ (k : Int) := by omega
      have hk1 : (k : Int) < 6 := by omega
      have hk5 : (k : Int) ≤ 5 := by omega
      have hbw := HB.out
      have hRl := heap_lt hR
      have hBl := heap_lt hB
      have hDW : ∀ W, Below wr.heap.size wr W → Desk W D H ⟨ws, hs⟩ := fun W hW => HD.out.gr (hbw.trans (hW.mono hbw.size))
      have hml := mixO_len hh6 hk
      have HST := Hid.intro (mixO_step hh6 hlt)
      have HAT := Hid.intro (mixO_at hh6 hlt)
      have hf := held_at (hs := hs) hk0 hk5
      rw [getZ_nat (show k < hs.length by omega)] at hf
      have HV := Hid.intro (show hs[k] = hs[k] from rfl)
      generalize hs[k] = v at hf HST
      by_cases hm : v = -1
      · rw [if_pos hm] at hf
        obtain ⟨x, hxe⟩ : ∃ x : Int, x = 0 := ⟨_, rfl⟩
        obtain ⟨b, hbe⟩ : ∃ b : Bool, b = false := ⟨_, rfl⟩
        have hLK : ∀ W, Below wr.heap.size wr W → (Instr.lookup 90 (.map (some H)) (.agg #[.int .i64 ((k : Int) / 2), .int .i64 ((k : Int) % 2)]) true).run Tryz.prog W = .ok (.tuple #[.int .i64 x, .bool b]) W := fun W hW => by
          have := (hDW W hW).map.look holds_map ((k : Int) / 2) ((k : Int) % 2)
          simp only [hf] at this
          rw [hxe, hbe]; exact this
        go_wp2_with fail
        refine wp_region_fl (by kernel_rfl) (fl_stateL D H k x b) (fun _ => Below wr.heap.size wr) [23, 24, 25, 26, 27, 28, 29, 22, 30, 31, 5, 6] (by kernel_rfl) (by kernel_rfl) (by kernel_rfl) ?c0 ?looks ?done
        case looks =>
          intro hcl i o ho
          rcases i with _ | _ | _ | _ | _ | _ | _ | _ | _ | _ | _ | _ | i
          · simp at ho; subst ho
            refine fo_det (st_stateL D H k x b) hcl rfl rfl rfl rfl (by kernel_rfl) (fun _ _ h => h) (fun done ρ W hat => ?_)
            have e0 : ρ (.tmp 0) = .pointer (some ⟨D, 0, none⟩) := hat.out 0 (by kernel_rfl)
            have hC := hat.cls
            have hc := hat.con
            simp only [execOp, e0]
            go_simp
          · simp at ho; subst ho
            refine fo_det (st_stateL D H k x b) hcl rfl rfl rfl rfl (by kernel_rfl) (fun _ _ h => h) (fun done ρ W hat => ?_)
            have e23 : ρ (.tmp 23) = .pointer (some ⟨D, 0, none⟩) := fIs_at (d := 23) (v := .pointer (some ⟨D, 0, none⟩)) (hat.fact 0 (by kernel_rfl))
            have hC := hat.cls
            have hc := hat.con
            simp only [execOp, e23]
            go_simp
          · simp at ho; subst ho
            refine fo_det (st_stateL D H k x b) hcl rfl rfl rfl rfl (by kernel_rfl) (fun _ _ h => h) (fun done ρ W hat => ?_)
            have e24 : ρ (.tmp 24) = .pointer (some ⟨D, 0, none⟩) := fIs_at (d := 24) (v := .pointer (some ⟨D, 0, none⟩)) (hat.fact 1 (by kernel_rfl))
            have hC := hat.cls
            have hc := hat.con
            simp only [execOp, e24]
            go_simp
          · simp at ho; subst ho
            refine fo_det (st_stateL D H k x b) hcl rfl rfl rfl rfl (by kernel_rfl) (fun _ _ h => h) (fun done ρ W hat => ?_)
            have e25 : ρ (.tmp 25) = .pointer (some ⟨D, 64, none⟩) := fIs_at (d := 25) (v := .pointer (some ⟨D, 64, none⟩)) (hat.fact 2 (by kernel_rfl))
            have hC := hat.cls
            have c64 := (hDW W hC).mapc
            have hc := hat.con
            simp only [execOp, e25]
            go_simp
          · simp at ho; subst ho
            refine fo_det (st_stateL D H k x b) hcl rfl rfl rfl rfl (by kernel_rfl) (fun _ _ h => h) (fun done ρ W hat => ?_)
            have e4 : ρ (.tmp 4) = .int .i64 (k : Int) := hat.out 4 (by kernel_rfl)
            have hC := hat.cls
            have hc := hat.con
            simp only [execOp, e4]
            go_simp
          · simp at ho; subst ho
            refine fo_grow (st_stateL D H k x b) hcl rfl rfl (fun done ρ W hat => ?_)
            have e27 : ρ (.tmp 27) = .int .i64 (k : Int) := fIs_at (d := 27) (v := .int .i64 (k : Int)) (hat.fact 4 (by kernel_rfl))
            have hC := hat.cls
            have hf := hat.fn
            have hc := hat.con
            refine up_call 58 #[.int .i64 (k : Int)] (by simp only [execOp]; go_simp) ?_
            refine (holderAt_any (k : Int) W hk0 hk5).mono ?_
            rintro e W1 ⟨rfl, hb⟩
            exact ⟨_, rfl, hC.trans (hb.mono hC.size), hb, fIs_mk (updV_same _ _ _), free_spec (by kernel_rfl) hat.lt⟩
          · simp at ho; subst ho
            refine fo_det (st_stateL D H k x b) hcl rfl rfl rfl rfl (by kernel_rfl) (fun _ _ h => h) (fun done ρ W hat => ?_)
            have e26 : ρ (.tmp 26) = .map (some H) := fIs_at (d := 26) (v := .map (some H)) (hat.fact 3 (by kernel_rfl))
            have e28 : ρ (.tmp 28) = .agg #[.int .i64 ((k : Int) / 2), .int .i64 ((k : Int) % 2)] := fIs_at (d := 28) (v := .agg #[.int .i64 ((k : Int) / 2), .int .i64 ((k : Int) % 2)]) (hat.fact 5 (by kernel_rfl))
            have hC := hat.cls
            have hlk := hLK W hC
            have hc := hat.con
            simp only [execOp, e26, e28]
            go_simp
          · simp at ho; subst ho
            refine fo_det (st_stateL D H k x b) hcl rfl rfl rfl rfl (by kernel_rfl) (fun _ _ h => h) (fun done ρ W hat => ?_)
            have e29 : ρ (.tmp 29) = .tuple #[.int .i64 x, .bool b] := fIs_at (d := 29) (v := .tuple #[.int .i64 x, .bool b]) (hat.fact 6 (by kernel_rfl))
            have hC := hat.cls
            have hc := hat.con
            simp only [execOp, e29]
            go_simp
          · simp at ho; subst ho
            refine fo_det (st_stateL D H k x b) hcl rfl rfl rfl rfl (by kernel_rfl) (fun _ _ h => h) (fun done ρ W hat => ?_)
            have e22 : ρ (.tmp 22) = .tuple #[.int .i64 x, .bool b] := fIs_at (d := 22) (v := .tuple #[.int .i64 x, .bool b]) (hat.fact 7 (by kernel_rfl))
            have hC := hat.cls
            have hc := hat.con
            simp only [execOp, e22]
            go_simp
          · simp at ho; subst ho
            refine fo_det (st_stateL D H k x b) hcl rfl rfl rfl rfl (by kernel_rfl) (fun _ _ h => h) (fun done ρ W hat => ?_)
            have e22 : ρ (.tmp 22) = .tuple #[.int .i64 x, .bool b] := fIs_at (d := 22) (v := .tuple #[.int .i64 x, .bool b]) (hat.fact 7 (by kernel_rfl))
            have hC := hat.cls
            have hc := hat.con
            simp only [execOp, e22]
            go_simp
          · simp at ho; subst ho
            refine fo_det (st_stateL D H k x b) hcl rfl rfl rfl rfl (by kernel_rfl) (fun _ _ h => h) (fun done ρ W hat => ?_)
            have e30 : ρ (.tmp 30) = .int .i64 x := fIs_at (d := 30) (v := .int .i64 x) (hat.fact 8 (by kernel_rfl))
            have hC := hat.cls
            have hc := hat.con
            simp only [execOp, e30]
            go_simp
          · simp at ho; subst ho
            refine fo_det (st_stateL D H k x b) hcl rfl rfl rfl rfl (by kernel_rfl) (fun _ _ h => h) (fun done ρ W hat => ?_)
            have e31 : ρ (.tmp 31) = .bool b := fIs_at (d := 31) (v := .bool b) (hat.fact 9 (by kernel_rfl))
            have hC := hat.cls
            have hc := hat.con
            simp only [execOp, e31]
            go_simp
          · simp at ho
        case c0 => exact (Below.refl _ _).drew
        case done =>
          intro f W hC hf hout
          have HG2 := Hid.intro (HG.out.of (hC.block g HG.out.lt))
          have HG2' := Hid.intro (HG'.out.of (hC.block g' HG'.out.lt))
          have HB2 := Hid.intro (HB.out.trans (hC.mono HB.out.size))
          have hB2 := (hC.block _ hBl).trans hB
          have hR2 := (hC.block _ hRl).trans hR
          have e6 : f 6 = .bool b := fIs_at (d := 6) (v := .bool b) (hf 11 (by decide))
          have e31 : f 31 = .bool b := fIs_at (d := 31) (v := .bool b) (hf 9 (by decide))
          clear hC hf
          simp only [fill, e6, e31, hbe]
          go_simp
          go_wp2
          go_roundw
          case rel =>
            refine ⟨k + 1, by omega, by go_num, HG2, ?_, HB2, hB2, hR2⟩
            show ORow _ _ _ _ _ _ _
            have hsame : (mixO hs k).set k v = mixO hs k := by
              rw [hm]
              apply List.ext_getElem?
              intro i
              rw [List.getElem?_set]
              by_cases hki : k = i
              · subst hki; rw [HAT.out]; simp [hml, hlt]
              · simp [hki]
            rw [← HST.out, hsame]; exact HG2'.out
          case measure => simp [intOf]; omega
      · rw [if_neg hm] at hf
        obtain ⟨x, hxe⟩ : ∃ x : Int, x = v := ⟨_, rfl⟩
        obtain ⟨b, hbe⟩ : ∃ b : Bool, b = true := ⟨_, rfl⟩
        have hLK : ∀ W, Below wr.heap.size wr W → (Instr.lookup 90 (.map (some H)) (.agg #[.int .i64 ((k : Int) / 2), .int .i64 ((k : Int) % 2)]) true).run Tryz.prog W = .ok (.tuple #[.int .i64 x, .bool b]) W := fun W hW => by
          have := (hDW W hW).map.look holds_map ((k : Int) / 2) ((k : Int) % 2)
          simp only [hf] at this
          rw [hxe, hbe]; exact this
        go_wp2_with fail
        refine wp_region_fl (by kernel_rfl) (fl_stateL D H k x b) (fun _ => Below wr.heap.size wr) [23, 24, 25, 26, 27, 28, 29, 22, 30, 31, 5, 6] (by kernel_rfl) (by kernel_rfl) (by kernel_rfl) ?c0 ?looks ?done
        case looks =>
          intro hcl i o ho
          rcases i with _ | _ | _ | _ | _ | _ | _ | _ | _ | _ | _ | _ | i
          · simp at ho; subst ho
            refine fo_det (st_stateL D H k x b) hcl rfl rfl rfl rfl (by kernel_rfl) (fun _ _ h => h) (fun done ρ W hat => ?_)
            have e0 : ρ (.tmp 0) = .pointer (some ⟨D, 0, none⟩) := hat.out 0 (by kernel_rfl)
            have hC := hat.cls
            have hc := hat.con
            simp only [execOp, e0]
            go_simp
          · simp at ho; subst ho
            refine fo_det (st_stateL D H k x b) hcl rfl rfl rfl rfl (by kernel_rfl) (fun _ _ h => h) (fun done ρ W hat => ?_)
            have e23 : ρ (.tmp 23) = .pointer (some ⟨D, 0, none⟩) := fIs_at (d := 23) (v := .pointer (some ⟨D, 0, none⟩)) (hat.fact 0 (by kernel_rfl))
            have hC := hat.cls
            have hc := hat.con
            simp only [execOp, e23]
            go_simp
          · simp at ho; subst ho
            refine fo_det (st_stateL D H k x b) hcl rfl rfl rfl rfl (by kernel_rfl) (fun _ _ h => h) (fun done ρ W hat => ?_)
            have e24 : ρ (.tmp 24) = .pointer (some ⟨D, 0, none⟩) := fIs_at (d := 24) (v := .pointer (some ⟨D, 0, none⟩)) (hat.fact 1 (by kernel_rfl))
            have hC := hat.cls
            have hc := hat.con
            simp only [execOp, e24]
            go_simp
          · simp at ho; subst ho
            refine fo_det (st_stateL D H k x b) hcl rfl rfl rfl rfl (by kernel_rfl) (fun _ _ h => h) (fun done ρ W hat => ?_)
            have e25 : ρ (.tmp 25) = .pointer (some ⟨D, 64, none⟩) := fIs_at (d := 25) (v := .pointer (some ⟨D, 64, none⟩)) (hat.fact 2 (by kernel_rfl))
            have hC := hat.cls
            have c64 := (hDW W hC).mapc
            have hc := hat.con
            simp only [execOp, e25]
            go_simp
          · simp at ho; subst ho
            refine fo_det (st_stateL D H k x b) hcl rfl rfl rfl rfl (by kernel_rfl) (fun _ _ h => h) (fun done ρ W hat => ?_)
            have e4 : ρ (.tmp 4) = .int .i64 (k : Int) := hat.out 4 (by kernel_rfl)
            have hC := hat.cls
            have hc := hat.con
            simp only [execOp, e4]
            go_simp
          · simp at ho; subst ho
            refine fo_grow (st_stateL D H k x b) hcl rfl rfl (fun done ρ W hat => ?_)
            have e27 : ρ (.tmp 27) = .int .i64 (k : Int) := fIs_at (d := 27) (v := .int .i64 (k : Int)) (hat.fact 4 (by kernel_rfl))
            have hC := hat.cls
            have hf := hat.fn
            have hc := hat.con
            refine up_call 58 #[.int .i64 (k : Int)] (by simp only [execOp]; go_simp) ?_
            refine (holderAt_any (k : Int) W hk0 hk5).mono ?_
            rintro e W1 ⟨rfl, hb⟩
            exact ⟨_, rfl, hC.trans (hb.mono hC.size), hb, fIs_mk (updV_same _ _ _), free_spec (by kernel_rfl) hat.lt⟩
          · simp at ho; subst ho
            refine fo_det (st_stateL D H k x b) hcl rfl rfl rfl rfl (by kernel_rfl) (fun _ _ h => h) (fun done ρ W hat => ?_)
            have e26 : ρ (.tmp 26) = .map (some H) := fIs_at (d := 26) (v := .map (some H)) (hat.fact 3 (by kernel_rfl))
            have e28 : ρ (.tmp 28) = .agg #[.int .i64 ((k : Int) / 2), .int .i64 ((k : Int) % 2)] := fIs_at (d := 28) (v := .agg #[.int .i64 ((k : Int) / 2), .int .i64 ((k : Int) % 2)]) (hat.fact 5 (by kernel_rfl))
            have hC := hat.cls
            have hlk := hLK W hC
            have hc := hat.con
            simp only [execOp, e26, e28]
            go_simp
          · simp at ho; subst ho
            refine fo_det (st_stateL D H k x b) hcl rfl rfl rfl rfl (by kernel_rfl) (fun _ _ h => h) (fun done ρ W hat => ?_)
            have e29 : ρ (.tmp 29) = .tuple #[.int .i64 x, .bool b] := fIs_at (d := 29) (v := .tuple #[.int .i64 x, .bool b]) (hat.fact 6 (by kernel_rfl))
            have hC := hat.cls
            have hc := hat.con
            simp only [execOp, e29]
            go_simp
          · simp at ho; subst ho
            refine fo_det (st_stateL D H k x b) hcl rfl rfl rfl rfl (by kernel_rfl) (fun _ _ h => h) (fun done ρ W hat => ?_)
            have e22 : ρ (.tmp 22) = .tuple #[.int .i64 x, .bool b] := fIs_at (d := 22) (v := .tuple #[.int .i64 x, .bool b]) (hat.fact 7 (by kernel_rfl))
            have hC := hat.cls
            have hc := hat.con
            simp only [execOp, e22]
            go_simp
          · simp at ho; subst ho
            refine fo_det (st_stateL D H k x b) hcl rfl rfl rfl rfl (by kernel_rfl) (fun _ _ h => h) (fun done ρ W hat => ?_)
            have e22 : ρ (.tmp 22) = .tuple #[.int .i64 x, .bool b] := fIs_at (d := 22) (v := .tuple #[.int .i64 x, .bool b]) (hat.fact 7 (by kernel_rfl))
            have hC := hat.cls
            have hc := hat.con
            simp only [execOp, e22]
            go_simp
          · simp at ho; subst ho
            refine fo_det (st_stateL D H k x b) hcl rfl rfl rfl rfl (by kernel_rfl) (fun _ _ h => h) (fun done ρ W hat => ?_)
            have e30 : ρ (.tmp 30) = .int .i64 x := fIs_at (d := 30) (v := .int .i64 x) (hat.fact 8 (by kernel_rfl))
            have hC := hat.cls
            have hc := hat.con
            simp only [execOp, e30]
            go_simp
          · simp at ho; subst ho
            refine fo_det (st_stateL D H k x b) hcl rfl rfl rfl rfl (by kernel_rfl) (fun _ _ h => h) (fun done ρ W hat => ?_)
            have e31 : ρ (.tmp 31) = .bool b := fIs_at (d := 31) (v := .bool b) (hat.fact 9 (by kernel_rfl))
            have hC := hat.cls
            have hc := hat.con
            simp only [execOp, e31]
            go_simp
          · simp at ho
        case c0 => exact (Below.refl _ _).drew
        case done =>
          intro f W hC hf hout
          have HG2 := Hid.intro (HG.out.of (hC.block g HG.out.lt))
          have hG2' := HG'.out.of (hC.block g' HG'.out.lt)
          have HB2 := Hid.intro (HB.out.trans (hC.mono HB.out.size))
          have hB2 := (hC.block _ hBl).trans hB
          have hR2 := (hC.block _ hRl).trans hR
          have e4 : f 4 = .int .i64 (k : Int) := hout 4 (by kernel_rfl)
          have e5 : f 5 = .int .i64 x := fIs_at (d := 5) (v := .int .i64 x) (hf 10 (by decide))
          have e6 : f 6 = .bool b := fIs_at (d := 6) (v := .bool b) (hf 11 (by decide))
          have cB1 : W.cell? ⟨w1.heap.size, 1, none⟩ = some (.slice (some ⟨g', 0, none⟩) 6 6) := heap_cell hB2 1
          have cv : W.cell? ⟨g', k, none⟩ = some (.int .i64 (-1)) := hG2'.get k _ (by rw [List.getElem?_map, HAT.out]; rfl)
          have fv := hG2'.free k
          have HS := Hid.intro (hG2'.set k hlt v)
          rw [HST.out] at HS
          clear hC hf hG2' hout
          simp only [fill, e4, e5, e6, hbe, hxe]
          go_simp
          go_wp2
          go_roundw
          case rel =>
            refine ⟨k + 1, by omega, by go_num, HG2.out.of (heap_set_ne hgg), HS, HB2.out.setCell (p := ⟨g', k, none⟩) (by show w.heap.size ≤ g'; omega) _, (heap_set_ne (by omega)).trans hB2, (heap_set_ne (by omega)).trans hR2⟩
          case measure => simp [intOf]; omega
    · have hk' : k = 6 := by omega
      subst hk'
      have hO := HG'.out
      rw [mixO_all hh6] at hO
      have c0 : wr.cell? ⟨w1.heap.size, 0, none⟩ = some (.slice (some ⟨g, 0, none⟩) 64 64) := heap_cell hB 0
      have c1 : wr.cell? ⟨w1.heap.size, 1, none⟩ = some (.slice (some ⟨g', 0, none⟩) 6 6) := heap_cell hB 1
      have r0 : wr.cell? ⟨w.heap.size, 0, none⟩ = some (.slice none 0 0) := heap_cell hR 0
      have r1 : wr.cell? ⟨w.heap.size, 1, none⟩ = some (.slice none 0 0) := heap_cell hR 1
      have f0 := heap_free hR 0
      have f1 := heap_free hR 1
      have hR2 := heap_set (heap_set hR 0 (.slice (some ⟨g, 0, none⟩) 64 64)) 1 (.slice (some ⟨g', 0, none⟩) 6 6)
      have s0 := (heap_cell hR2 0)
      have s1 := (heap_cell hR2 1)
      simp at s0 s1
      have HO2 := Hid.intro hO
      clear hR2 hR hB hO HG'
      go_wp2
      refine bodyPost_ret (v := .agg #[.slice (some ⟨g, 0, none⟩) 64 64, .slice (some ⟨g', 0, none⟩) 6 6]) (by simp [results, Tryz.results39, go_sem, s0, s1]) rfl ⟨g, g', rfl, ?_, ?_, by omega, by omega, hgg, ?_⟩
      · exact HG.out.of ((heap_set_ne (by omega)).trans (heap_set_ne (by omega)))
      · exact HO2.out.of ((heap_set_ne (by omega)).trans (heap_set_ne (by omega)))
      · exact (HB.out.setCell (p := ⟨w.heap.size, 0, none⟩) (Nat.le_refl _) _).setCell (p := ⟨w.heap.size, 1, none⟩) (Nat.le_refl _) _

end Go.Proofs.YtpamjkkghghggaaGreat
