/-
  Rows of numbers: the laws' functions, by contract of kinds.
-/
import Derived.Test.YtgjlkmhbaimjpaaKndLM
import Derived.Test.YtgjlkmhbaimjpaaToInts
namespace Go.Proofs.Ytgjlkmhbaimjpaa
open Go.RowKit
set_option linter.unusedSimpArgs false
set_option linter.unusedVariables false

def yI : Knd (Lst Int) (List Int) := gLst 3 gInt
theorem yI_law : KLaw yI := gLst_law gInt_law (by decide)
theorem flat_int (l : List Int) : l.flatMap gInt.cells = l.map (Value.int .i64) := by
  induction l with
  | nil => rfl
  | cons x l ih => rw [List.flatMap_cons, ih]; rfl
theorem foot_scal {α β : Type} {K : Knd α β} (h : ∀ a, K.foot a = []) (l : List α) : l.flatMap K.foot = [] := by
  induction l with
  | nil => rfl
  | cons x l ih => rw [List.flatMap_cons, ih, h]; rfl
theorem yI_foot (a : Lst Int) : yI.foot a = blk a := by
  show blk a ++ a.l.flatMap gInt.foot = _
  rw [foot_scal (fun _ => rfl)]; simp
theorem yI_rd {w : World} {a : Lst Int} : yI.rd w a ↔ a.l.length ≤ a.c ∧ a.c ≤ 9223372036854775807 ∧ IntsAt w a.p a.l := by
  constructor
  · rintro ⟨h1, h2, h3, _⟩
    refine ⟨h1, h2, ?_⟩
    rcases h3 with h3 | ⟨b, off, e, hlt, hc⟩
    · exact .inl h3
    · refine .inr ⟨b, off, e, hlt, fun k hk => ?_⟩
      have := hc k hk 0 _ rfl
      simpa [gInt] using this
  · rintro ⟨h1, h2, h3⟩
    refine ⟨h1, h2, ?_, fun _ _ => trivial⟩
    rcases h3 with h3 | ⟨b, off, e, hlt, hc⟩
    · exact .inl h3
    · refine .inr ⟨b, off, e, hlt, fun k hk j v hv => ?_⟩
      have hj : j = 0 := by
        have := (List.getElem?_eq_some_iff.1 hv).1
        simp [gInt] at this; exact this
      subst hj
      have : v = .int .i64 a.l[k] := by simpa [gInt] using hv.symm
      subst this
      simpa [gInt] using hc k hk
theorem yI_ow {w : World} {a : Lst Int} : yI.ow w a ↔ a.l.length ≤ a.c ∧ a.c ≤ 9223372036854775807 ∧ OwnI w a.p a.c a.l := by
  constructor
  · rintro ⟨h1, h2, h3, _⟩
    refine ⟨h1, h2, ?_⟩
    rcases h3 with h3 | ⟨b, e, hO⟩
    · exact .inl h3
    · rw [flat_int] at hO; exact .inr ⟨b, e, hO⟩
  · rintro ⟨h1, h2, h3⟩
    refine ⟨h1, h2, ?_, fun _ _ => trivial⟩
    rcases h3 with h3 | ⟨b, e, hO⟩
    · exact .inl h3
    · refine .inr ⟨b, e, ?_⟩; rw [flat_int]; exact hO
theorem map_zero {α : Type} (l : List α) : (l.map (fun _ => 0)).sum = 0 := by induction l <;> simp_all
theorem map_one {α : Type} (l : List α) : (l.map (fun _ => 1)).sum = l.length := by induction l <;> simp_all [Nat.add_comm]
theorem yI_size (a : Lst Int) : yI.size a = a.l.length := by
  show a.l.length + (a.l.map (fun _ => 0)).sum = _
  rw [map_zero]; rfl
theorem cnt_int (l : List Int) : cntL gInt l = l.length := map_one l
theorem yI_cnt (a : Lst Int) : yI.vcnt a = a.l.length := cnt_int a.l
theorem mkdL_int : ∀ (l : List Int) (k : Int), mkdL gInt l k ↔ l = markL k l.length
  | [], k => by simp [mkdL, markL]
  | x :: l, k => by
    have e : markL k (l.length + 1) = k :: markL (k + 1) l.length := by
      simp only [markL, List.range_succ_eq_map, List.map_cons, List.map_map]
      refine congr (by simp) (List.map_congr_left (fun i _ => ?_))
      simp only [Function.comp_apply, Nat.succ_eq_add_one]; push_cast; omega
    simp only [mkdL, List.length_cons, e, List.cons.injEq, mkdL_int l]
    exact Iff.rfl
theorem blk_nodup {α : Type} (a : Lst α) : (blk a).Nodup := by
  unfold blk
  split <;> simp
theorem blk_mem {α : Type} {a : Lst α} {b : Nat} (h : b ∈ blk a) : a.l ≠ [] ∧ ∃ x, a.p = some x ∧ x.block = b := by
  unfold blk at h
  split at h
  · simp at h
  · rename_i h1 h2; simp at h; exact ⟨by rw [h1]; simp, _, h2, h.symm⟩
  · simp at h

theorem yI_to : ToC yI 42 := by
  rintro ⟨p, c, l⟩ w h hs
  obtain ⟨h1, h2, h3⟩ := yI_rd.1 h
  rw [yI_size] at hs
  refine (toInts_any p c l w h3 h1 h2 hs).mono ?_
  rintro e w' ⟨rfl, hO, hb⟩
  refine ⟨⟨some ⟨w.heap.size, 0, none⟩, l.length, l⟩, rfl, rfl, rfl, ⟨yI_ow.2 ⟨Nat.le_refl _, by simp only at hs ⊢; omega, .inr ⟨_, rfl, hO⟩⟩, by rw [yI_foot]; exact blk_nodup _, fun b hm => ?_⟩, hb⟩
  rw [yI_foot] at hm
  obtain ⟨_, x, e, e'⟩ := blk_mem hm
  cases e
  exact Nat.le_of_eq e'
theorem yI_eq : EqC yI 49 := by
  rintro ⟨p, c, l⟩ ⟨q, d, m⟩ w h h' hp
  obtain ⟨h1, h2, h3⟩ := yI_rd.1 h
  obtain ⟨g1, g2, g3⟩ := yI_rd.1 h'
  have e : l = m := by simpa [yI, gLst, gInt] using hp
  subst e
  exact eqIntS_same p q c d l w h3 g3 h1 h2 g1 g2
theorem yI_sz : SzC yI 36 := by
  rintro ⟨p, c, l⟩ left w h h0 h1
  obtain ⟨g1, g2, _⟩ := yI_rd.1 h
  simp only at g1 g2
  refine (szInts_any p l.length c left w (by omega) h0 h1).mono ?_
  rintro e w' ⟨rfl, rfl⟩
  refine ⟨?_, Below.refl _ _⟩
  rw [yI_size]
  by_cases hl : (l.length : Int) ≤ left
  · rw [if_pos hl]; exact ⟨_, rfl, .inr ⟨by omega, rfl⟩⟩
  · rw [if_neg hl]; exact ⟨_, rfl, .inl rfl⟩

set_option maxRecDepth 100000 in
set_option maxHeartbeats 1000000 in
theorem markI_big (p : Option Addr) (cap : Nat) (l : List Int) (k0 : Int) (w : World) (h : OwnI w p cap l) (hk0 : 0 ≤ k0) (hk1 : k0 + (l.length : Int) ≤ 1000000000000000) (h1 : l.length ≤ cap) (h2 : cap ≤ 9223372036854775807) :
    Calls Try.prog 70 #[.slice p l.length cap, .int .i64 k0] w fun e w' => e = .returned (.int .i64 (k0 + (l.length : Int))) ∧ OwnI w' p cap (markL k0 l.length) ∧ Kept (fun k => l ≠ [] ∧ p = some ⟨k, 0, none⟩) w w' := by
  go_enter Try.func70, Try.ntmps70
  go_wp2
  go_loopw [1, 5] (fun kk i wr => ∃ j : Nat, j ≤ l.length ∧ i = .int .i64 j ∧ kk = .int .i64 (k0 + (j : Int)) ∧ Hid (l = [] ∨ ∃ g, p = some ⟨g, 0, none⟩ ∧ ORow 3 1 wr g cap l.length ((mixG k0 l j).map (Value.int .i64))) ∧ Kept (fun k => l ≠ [] ∧ p = some ⟨k, 0, none⟩) w wr) (fun _ i _ => l.length - (intOf i).toNat)
  case atStart => exact ⟨0, Nat.zero_le _, rfl, by simp, by rw [mixG_zero]; exact h, Kept.refl _ _⟩
  case round =>
    clear h
    obtain ⟨j, hj, rfl, rfl, HO, hkp⟩ := hrel
    by_cases hlt : j < l.length
    · rcases HO.out with hx | ⟨g, rfl, hrow⟩
      · subst hx; simp at hlt
      have hne : l ≠ [] := by intro e; subst e; simp at hlt
      have hj0 : (0 : Int) ≤ (j : Int) := by omega
      have hj1 : (j : Int) < (l.length : Int) := by omega
      have hm := mixG_len k0 l j hj
      have hc : wr.cell? ⟨g, j, none⟩ = some (.int .i64 ((mixG k0 l j)[j]'(by omega))) := hrow.get j _ (by simp [hm, hlt])
      have hf : wr.frozen? ⟨g, j, none⟩ = false := by
        obtain ⟨cur, e1, _⟩ := hrow
        simp [World.frozen?, e1]
      have HS := Hid.intro (hrow.set j hlt (k0 + (j : Int)))
      have HNE := Hid.intro hne
      clear hrow HO hne
      go_wp2
      go_roundw
      case rel =>
        refine ⟨j + 1, by omega, by go_num, by go_num, ?_, hkp.trans (Kept.setCell (D := fun k => l ≠ [] ∧ (some ⟨g, 0, none⟩ : Option Addr) = some ⟨k, 0, none⟩) (p := ⟨g, j, none⟩) _ ⟨HNE.out, rfl⟩ _)⟩
        show _ ∨ _
        rw [mixG_step k0 l j hlt]
        exact .inr ⟨g, rfl, by simpa using HS.out⟩
      case measure => simp [intOf]; omega
    · have hj' : j = l.length := by omega
      subst hj'
      go_wp2
      go_ret
      refine ⟨rfl, ?_, hkp⟩
      rcases HO.out with hx | ⟨g, rfl, hrow⟩
      · left; rw [hx]; rfl
      · rw [mixG_all] at hrow
        exact .inr ⟨g, rfl, by rw [markL_len]; exact hrow⟩
theorem yI_mark : MarkC yI 70 := by
  rintro ⟨p, c, l⟩ k w h hn h0 h1
  obtain ⟨g1, g2, g3⟩ := yI_ow.1 h
  rw [yI_cnt] at h1
  refine (markI_big p c l k w g3 h0 h1 g1 g2).mono ?_
  rintro e w' ⟨rfl, hO, hk⟩
  refine ⟨by rw [yI_cnt], hk.mono (fun b hb => by rw [yI_foot, blk_of hb.1 hb.2]; simp), ⟨p, c, markL k l.length⟩, ?_, ?_, ?_, ?_, ?_, ?_⟩
  · show Value.slice p (markL k l.length).length c = Value.slice p l.length c; rw [markL_len]
  · show [Value.slice p (markL k l.length).length c] = [Value.slice p l.length c]; rw [markL_len]
  · rw [yI_foot, yI_foot]; exact blk_same rfl (markL_len _ _)
  · rw [yI_cnt, yI_cnt]; exact markL_len _ _
  · exact yI_ow.2 ⟨by simp only [markL_len]; exact g1, g2, hO⟩
  · exact (mkdL_int _ _).2 (by rw [markL_len])

set_option maxRecDepth 100000 in
set_option maxHeartbeats 1000000 in
theorem heldI_big (p : Option Addr) (cap n : Nat) (k0 : Int) (w : World) (h : IntsAt w p (markL k0 n)) (hk0 : 0 ≤ k0) (hk1 : k0 + (n : Int) ≤ 1000000000000000) (h1 : n ≤ cap) (h2 : cap ≤ 9223372036854775807) :
    Calls Try.prog 73 #[.slice p n cap, .int .i64 k0] w fun e w' => e = .returned (.int .i64 (k0 + (n : Int))) ∧ w' = w := by
  have HO := Hid.intro h
  clear h
  go_enter Try.func73, Try.ntmps73
  go_wp2
  go_loopw [1, 5] (fun kk i wr => ∃ j : Nat, j ≤ n ∧ i = .int .i64 j ∧ kk = .int .i64 (k0 + (j : Int)) ∧ wr = w) (fun _ i _ => n - (intOf i).toNat)
  case atStart => exact ⟨0, Nat.zero_le _, rfl, by simp, rfl⟩
  case round =>
    obtain ⟨j, hj, rfl, rfl, rfl⟩ := hrel
    by_cases hlt : j < n
    · have hml := markL_len k0 n
      rcases HO.out with hx | ⟨b, off, rfl, hb, hcells⟩
      · rw [hx] at hml; simp at hml; omega
      have hj0 : (0 : Int) ≤ (j : Int) := by omega
      have hj1 : (j : Int) < (n : Int) := by omega
      have hc := hcells j (by omega)
      have hv : (markL k0 n)[j]'(by omega) = k0 + (j : Int) := by simp [markL]
      rw [hv] at hc
      clear hcells HO hv
      go_wp2
      go_roundw
      case rel => exact ⟨j + 1, by omega, by go_num, by go_num, by simp⟩
      case measure => simp [intOf]; omega
    · have hj' : j = n := by omega
      subst hj'
      go_wp2
      go_ret
      exact ⟨rfl, rfl⟩
theorem yI_held : HeldC yI 73 := by
  rintro ⟨p, c, l⟩ k w h hm h0 h1
  obtain ⟨g1, g2, g3⟩ := yI_rd.1 h
  rw [yI_cnt] at h1 ⊢
  have e : l = markL k l.length := (mkdL_int l k).1 hm
  simp only at g3 h1
  rw [e] at g3
  refine (heldI_big p c l.length k w g3 h0 h1 g1 g2).mono ?_
  rintro e w' ⟨rfl, rfl⟩
  exact ⟨rfl, Below.refl _ _⟩

end Go.Proofs.Ytgjlkmhbaimjpaa
