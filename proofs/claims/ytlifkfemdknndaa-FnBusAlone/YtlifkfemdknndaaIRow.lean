/-
  Rows of ints in memory; AdrBurst of the model.
-/
import Derived.Test.YtlifkfemdknndaaProg
import Derived.Test.YtlifkfemdknndaaAdr
import Derived.Test.YtlifkfemdknndaaORow
import Derived.Test.YtlifkfemdknndaaWld
namespace Go.Proofs.Ytlifkfemdknndaa
open Go.RowKit
set_option linter.unusedSimpArgs false
set_option linter.unusedVariables false

/-- ints in memory -/
def IntsAt (w : World) (a : Option Addr) (l : List Int) : Prop :=
  l = [] ∨ ∃ b off, a = some ⟨b, off, none⟩ ∧ b < w.heap.size ∧ ∀ k (h : k < l.length), w.cell? ⟨b, off + k, none⟩ = some (.int .i64 l[k])
theorem IntsAt.of {w w' : World} {a : Option Addr} {l : List Int} (h : IntsAt w a l) (hs : w.heap.size ≤ w'.heap.size) (hb : ∀ b off, a = some ⟨b, off, none⟩ → b < w.heap.size → w'.heap[b]? = w.heap[b]?) : IntsAt w' a l := by
  rcases h with h | ⟨b, off, h1, h2, h3⟩
  · exact .inl h
  · exact .inr ⟨b, off, h1, by omega, fun k hk => (World.cell?_of_block (w := w) (a := ⟨b, _, none⟩) (hb b off h1 h2)).trans (h3 k hk)⟩
theorem IntsAt.below {w w' : World} {a : Option Addr} {l : List Int} (h : IntsAt w a l) (hb : Below w.heap.size w w') : IntsAt w' a l :=
  h.of hb.size (fun b _ _ hlt => hb.block b hlt)

theorem Try.infoInt : (Try.prog.info? 3).map (fun i => (i.zero, i.size, i.bytes)) = some (some (.int .i64 0), 1, 8) := by kernel_rfl

/-- from an owned row -/
theorem ints_owned {w : World} {base g n cap : Nat} {l : List Int} (h : w.ownsRow base 3 1 (.slice (some ⟨g, 0, none⟩) n cap) n (l.map (Value.int .i64))) (hn : n = l.length) :
    IntsAt w (some ⟨g, 0, none⟩) l ∧ base ≤ g ∧ l.length ≤ cap ∧ cap ≤ 9223372036854775807 := by
  subst hn
  obtain ⟨_, h | ⟨g', cap', cur, hv, h1, h2, h3, h4, h5, h6⟩⟩ := h
  · simp at h
  · simp at hv
    obtain ⟨rfl, rfl⟩ := hv
    refine ⟨.inr ⟨g, 0, rfl, (Array.getElem?_eq_some_iff.1 h2).1, fun k hk => ?_⟩, h1, h3, by unfold maxLen at h4; omega⟩
    have e : w.cell? ⟨g, k, none⟩ = cur[k]? := by simp [World.cell?, h2]
    have h7 : (cur.toList.take (l.length * 1))[k]? = (l.map (Value.int .i64))[k]? := by rw [h6]
    rw [List.getElem?_take, if_pos (by omega)] at h7
    simp only [Nat.zero_add]
    rw [e]
    simpa [hk] using h7

theorem ints_base {w : World} {base g n cap : Nat} {l : List Value} (h : w.ownsRow base 3 1 (.slice (some ⟨g, 0, none⟩) n cap) n l) : base ≤ g := by
  obtain ⟨_, h | ⟨g', cap', cur, hv, h1, _⟩⟩ := h
  · simp at h
  · simp at hv
    obtain ⟨rfl, rfl⟩ := hv
    exact h1

/-- the addresses of a burst -/
def burst (a m : Int) (wrap : Bool) : List Int := if adrOkB a m wrap then (List.range m.toNat).map (fun k : Nat => burstAt a m wrap (k : Int)) else []
theorem burst_ok {a m : Int} {wrap : Bool} (h : adrOkB a m wrap = true) : burst a m wrap = (List.range m.toNat).map (fun k : Nat => burstAt a m wrap (k : Int)) := by simp [burst, h]
theorem burst_no {a m : Int} {wrap : Bool} (h : adrOkB a m wrap = false) : burst a m wrap = [] := by simp [burst, h]
theorem upto_succ (f : Nat → Int) (k : Nat) : ((List.range (k + 1)).map f).map (Value.int .i64) = ((List.range k).map f).map (Value.int .i64) ++ [.int .i64 (f k)] := by
  simp [List.range_succ]

set_option maxHeartbeats 1000000 in
theorem spec_AdrBurst (a m : Int) (wrap : Bool) (w : World) :
    Calls Try.prog 73 #[.int .i64 a, .int .i64 m, .bool wrap] w fun e w' => ∃ g cap, e = .returned (.slice (some ⟨g, 0, none⟩) (burst a m wrap).length cap) ∧ IntsAt w' (some ⟨g, 0, none⟩) (burst a m wrap) ∧ w.heap.size ≤ g ∧ (burst a m wrap).length ≤ cap ∧ cap ≤ 9223372036854775807 ∧ Below w.heap.size w w' := by
  have hbl : ∀ o, Below w.heap.size w (w.alloc o) := fun o => (Below.refl _ w).alloc (Nat.le_refl _) o
  cases hok : adrOkB a m wrap
  · have hb := burst_no hok
    have HB := Hid.intro hb
    clear hb
    go_enter Try.func73, Try.ntmps73
    go_wp2_with (go_at_call 84; refine (spec_AdrOk _ _ _ _).mono ?_; rintro e w' ⟨rfl, rfl⟩)
    go_ret
    refine ⟨_, 0, ?_, .inl HB.out, Nat.le_refl _, by rw [HB.out]; simp, by omega, hbl _⟩
    rw [HB.out]; rfl
  · have hb := burst_ok hok
    have HB := Hid.intro hb
    clear hb
    obtain ⟨h1, h2, h3, h4⟩ := (adrOk_iff a m wrap).1 hok
    obtain ⟨n, rfl⟩ := Int.eq_ofNat_of_zero_le (show 0 ≤ m by omega)
    have hn1 : 1 ≤ n := by omega
    have hn4 : n ≤ 4 := by omega
    have hnI : (1 : Int) ≤ (n : Int) := by omega
    have q1 : (0 : Int) ≤ a % (n : Int) := Int.emod_nonneg _ (by omega)
    have q2 : a % (n : Int) < (n : Int) := Int.emod_lt_of_pos _ (by omega)
    have HOK := Hid.intro hok
    clear h3 h4
    obtain ⟨i0, hi, hz0, hz1, hz2⟩ := info_parts Try.infoInt
    go_enter Try.func73, Try.ntmps73
    go_wp2_with (go_at_call 84; refine (spec_AdrOk _ _ _ _).mono ?_; rintro e w' ⟨rfl, rfl⟩)
    have hown0 : (w.alloc (.cells #[] 3)).ownsRow w.heap.size 3 1 (.slice (some ⟨w.heap.size, 0, none⟩) 0 0) 0 [] := ⟨rfl, .inr ⟨w.heap.size, 0, #[], rfl, Nat.le_refl _, by show (w.heap.push _)[w.heap.size]? = _; simp, Nat.le_refl _, Nat.zero_le _, rfl, rfl⟩⟩
    go_loopw [7, 9] (fun v i wr => ∃ (k g cap : Nat), k ≤ n ∧ i = .int .i64 k ∧ v = .slice (some ⟨g, 0, none⟩) k cap ∧ wr.ownsRow w.heap.size 3 1 (.slice (some ⟨g, 0, none⟩) k cap) k (((List.range k).map (fun k : Nat => burstAt a n wrap (k : Int))).map (Value.int .i64)) ∧ Below w.heap.size w wr ∧ g < wr.heap.size) (fun _ i _ => n - (intOf i).toNat)
    case atStart => exact ⟨0, _, 0, Nat.zero_le _, rfl, rfl, hown0, hbl _, by simp⟩
    case round =>
      clear hown0
      obtain ⟨k, g, cap, hk, rfl, rfl, hown, hbr, hg⟩ := hrel
      have hsz := hbr.size
      by_cases hlt : k < n
      · have hkI : (k : Int) < (n : Int) := by omega
        cases wrap
        · go_wp2_with (at_builtin; refine wpList_append_lies _ rfl _ _ _ rfl w.heap.size 3 i0 _ 1 8 Try.underlying24 hi hz0 hz1 hz2 rfl (by omega) (.slice (some ⟨g, 0, none⟩) k cap) k _ rfl (hown.alloc _) ⟨wr.heap.size, 0, none⟩ 1 1 [.int .i64 (a + k)] rfl rfl (cell_one_new _ _ _) (by simp [Value.oneCell']) (by omega) (by unfold maxLen; omega) (by omega) (by simp; omega) (wr.heap.size + 1) (by simp) ?_; intro g' cap' w2 hown2 hgrow2 hat2 hlt2)
          go_roundw
          case rel => exact ⟨k + 1, g', cap', by omega, by go_num, rfl, by rw [upto_succ]; simpa [burstAt] using hown2, (hbr.alloc hsz _).grown hgrow2 (by simp; omega) (fun x hx => by simp [Value.ownBlock] at hx; subst hx; exact (ints_base hown)), hlt2⟩
          case measure => simp [intOf]; omega
        · have q3 : (0 : Int) ≤ (a - (a - a % (n : Int)) + (k : Int)) % (n : Int) := Int.emod_nonneg _ (by omega)
          have q4 : (a - (a - a % (n : Int)) + (k : Int)) % (n : Int) < (n : Int) := Int.emod_lt_of_pos _ (by omega)
          go_wp2_with (at_builtin; refine wpList_append_lies _ rfl _ _ _ rfl w.heap.size 3 i0 _ 1 8 Try.underlying24 hi hz0 hz1 hz2 rfl (by omega) (.slice (some ⟨g, 0, none⟩) k cap) k _ rfl (hown.alloc _) ⟨wr.heap.size, 0, none⟩ 1 1 [.int .i64 (a - a % (n : Int) + (a - (a - a % (n : Int)) + (k : Int)) % (n : Int))] rfl rfl (cell_one_new _ _ _) (by simp [Value.oneCell']) (by omega) (by unfold maxLen; omega) (by omega) (by simp; omega) (wr.heap.size + 1) (by simp) ?_; intro g' cap' w2 hown2 hgrow2 hat2 hlt2)
          have eb : burstAt a n true (k : Int) = a - a % (n : Int) + (a - (a - a % (n : Int)) + (k : Int)) % (n : Int) := by
            simp only [burstAt, if_true]
            rw [show a + (k : Int) - (a - a % (n : Int)) = a - (a - a % (n : Int)) + (k : Int) by omega]
          have EB := Hid.intro eb
          clear eb
          go_roundw
          case rel => exact ⟨k + 1, g', cap', by omega, by go_num, rfl, by rw [upto_succ, EB.out]; exact hown2, (hbr.alloc hsz _).grown hgrow2 (by simp; omega) (fun x hx => by simp [Value.ownBlock] at hx; subst hx; exact (ints_base hown)), hlt2⟩
          case measure => simp [intOf]; omega
      · have hk' : k = n := by omega
        subst hk'
        obtain ⟨r1, r2, r3, r4⟩ := ints_owned hown (by simp)
        have hlen : ((List.range k).map (fun k_1 : Nat => burstAt a k wrap (k_1 : Int))).length = k := by simp
        go_wp2
        go_ret
        refine ⟨g, cap, ?_, ?_, r2, ?_, r4, hbr⟩
        · rw [HB.out]; simp
        · rw [HB.out]; simpa using r1
        · rw [HB.out]; simpa using r3

end Go.Proofs.Ytlifkfemdknndaa
