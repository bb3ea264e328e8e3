/-
  spec's l20Map with nothing wrong: ranges that are ok.
-/
import Derived.Test.YtlifkfemdknndaaMapDM
import Derived.Test.YtlifkfemdknndaaVBox
namespace Go.Proofs.Ytlifkfemdknndaa
open Go.RowKit
set_option linter.unusedSimpArgs false
set_option linter.unusedVariables false

/-- how the list stands between two statements, with nothing wrong -/
def ListOk (B p : Nat) (w : World) (v : Value) (wx : World) : Prop :=
  ∃ (b cap q : Nat) (xs : List Rng), v = .slice (some ⟨b, 0, none⟩) xs.length cap ∧ 1 ≤ xs.length ∧ xs.length ≤ 4 ∧ cap ≤ 4 ∧ WRow wx b cap xs ∧ mapOkB xs = true ∧ w.heap.size ≤ b ∧ Rd wx B q ∧ q ≤ p ∧ Keep B w wx

theorem map_a {k : Int} (h0 : 0 ≤ k) (h1 : k < 3) (b : Bool) : mapOkB [⟨0, 7, 0, false⟩, ⟨8, 15, 1, false⟩, ⟨20, 40, k, false⟩, ⟨41, 63, 2, b⟩] = true := by
  have : k = 0 ∨ k = 1 ∨ k = 2 := by omega
  rcases this with rfl | rfl | rfl <;> cases b <;> decide
theorem map_b (b : Bool) : mapOkB [⟨0, 15, 0, false⟩, ⟨16, 31, 1, false⟩, ⟨32, 47, 2, b⟩] = true := by cases b <;> decide
theorem map_c {k : Int} (h0 : 0 ≤ k) (h1 : k < 3) (b : Bool) : mapOkB (([⟨0, 15, 0, false⟩, ⟨16, 31, 1, false⟩, ⟨32, 47, 2, b⟩] : List Rng).take (1 + k.toNat)) = true := by
  have : k = 0 ∨ k = 1 ∨ k = 2 := by omega
  rcases this with rfl | rfl | rfl <;> cases b <;> decide

set_option maxRecDepth 100000 in
set_option maxHeartbeats 2000000 in
theorem l20Map_ok (B p : Nat) (w : World) (h : Rd w B p) (hp : p ≤ 900000) :
    Calls Try.prog 49 #[.pointer (some ⟨B, 0, none⟩), .int .i64 99999] w fun e w' => ∃ (b cap q : Nat) (xs : List Rng), e = .returned (.slice (some ⟨b, 0, none⟩) xs.length cap) ∧ 1 ≤ xs.length ∧ xs.length ≤ 4 ∧ xs.length ≤ cap ∧ cap ≤ 4 ∧ RowOf w' (some ⟨b, 0, none⟩) xs ∧ mapOkB xs = true ∧ w.heap.size ≤ b ∧ Rd w' B q ∧ q ≤ p + 4 ∧ Keep B w w' := by
  go_enter Try.func49, Try.ntmps49
  go_wp2_with fail
  refine (pick_at h (by omega) 3 (by omega) (by omega)).mono ?_
  rintro e w1 ⟨k1, ha1, hb1, rfl, hr1, hK1⟩
  go_wp2_with fail
  have hW1 : WRow (w1.alloc (.cells #[.int .i64 0, .int .i64 15, .int .i64 0, .bool false, .int .i64 16, .int .i64 31, .int .i64 1, .bool false, .int .i64 32, .int .i64 47, .int .i64 2, .bool (k1 == 0)] 70)) w1.heap.size 3 _ :=
    WRow.new (xs := [⟨0, 15, 0, false⟩, ⟨16, 31, 1, false⟩, ⟨32, 47, 2, k1 == 0⟩]) rfl
  have hBl := hr1.lt
  have hs1 := hK1.size
  refine (pick_at (hr1.alloc _) (by omega) 4 (by omega) (by omega)).mono ?_
  rintro e w2 ⟨k2, ha2, hb2, rfl, hr2, hK2⟩
  have hW2 := hW1.keep hK2 (by omega)
  have hK2' : Keep B w w2 := (hK1.alloc _).trans hK2
  clear hW1 hK1 hK2 hr1
  go_upto_block 0 with fail
  go_cut [5] (fun s5 wx => ListOk B (p + 4) w s5 wx)
  case first =>
    by_cases q0 : k2 = 0
    · subst q0
      clear hW2
      go_wp2_with fail
      refine (pick_at hr2 (by omega) 3 (by omega) (by omega)).mono ?_
      rintro e w3 ⟨k3, ha3, hb3, rfl, hr3, hK3⟩
      go_wp2_with fail
      refine (pick_at hr3 (by omega) 2 (by omega) (by omega)).mono ?_
      rintro e w4 ⟨k4, ha4, hb4, rfl, hr4, hK4⟩
      have hK4' : Keep B w w4 := (hK2'.trans hK3).trans hK4
      go_wp2
      go_meet
      case rel =>
        exact ⟨w4.heap.size, 4, _, [⟨0, 7, 0, false⟩, ⟨8, 15, 1, false⟩, ⟨20, 40, k3, false⟩, ⟨41, 63, 2, k4 == 0⟩], rfl, by simp, by simp, by simp, WRow.new (xs := [⟨0, 7, 0, false⟩, ⟨8, 15, 1, false⟩, ⟨20, 40, k3, false⟩, ⟨41, 63, 2, k4 == 0⟩]) rfl, map_a ha3 hb3 _, hK4'.size, hr4.alloc _, by omega, hK4'.alloc _⟩
    · have e0 : (k2 == 0) = false := by simpa using q0
      by_cases q1 : k2 = 1
      · subst q1
        go_wp2_with fail
        refine (pick_at hr2 (by omega) 3 (by omega) (by omega)).mono ?_
        rintro e w3 ⟨k3, ha3, hb3, rfl, hr3, hK3⟩
        have hW3 := (hW2.keep hK3 (by omega)).take (1 + k3.toNat)
        have hmc := map_c ha3 hb3 (k1 == 0)
        have hI : (1 : Int) + k3 ≤ 3 := by omega
        have hlen : ([⟨0, 15, 0, false⟩, ⟨16, 31, 1, false⟩, ⟨32, 47, 2, k1 == 0⟩] : List Rng).length = 3 := rfl
        have HX := Hid.intro (And.intro hW3 hmc)
        clear hmc hW3
        go_wp2
        go_meet
        case rel =>
          refine ⟨w1.heap.size, 3, _, _, ?_, ?_, ?_, by omega, HX.out.1, HX.out.2, by omega, hr3, by omega, hK2'.trans hK3⟩
          all_goals simp
          all_goals omega
      · have e1 : (k2 == 1) = false := by simpa using q1
        go_wp2
        go_meet
        case rel =>
          exact ⟨w1.heap.size, 3, _, [⟨0, 15, 0, false⟩, ⟨16, 31, 1, false⟩, ⟨32, 47, 2, k1 == 0⟩], rfl, by simp, by simp, by omega, hW2, map_b _, by omega, hr2, by omega, hK2'⟩
  case rest =>
    obtain ⟨b, cap, q, xs, rfl, hx1, hx4, hcap, hW, hok, hb, hr, hq, hK⟩ := hcut
    clear hW2 hK2' hr2
    have hcx : xs.length ≤ cap := by obtain ⟨_, _, _, h, _⟩ := hW; exact h
    have HX := Hid.intro (And.intro hW.row (And.intro hok hK))
    clear hW hok hK
    go_wp2_with fail
    refine (odd_no B 99999 wc (by omega)).mono ?_
    rintro e w3 ⟨rfl, hw⟩
    replace hw := hw.symm
    subst hw
    go_wp2
    go_ret
    exact ⟨b, cap, q, xs, rfl, hx1, hx4, hcx, hcap, HX.out.1, HX.out.2.1, hb, hr, hq, HX.out.2.2⟩

end Go.Proofs.Ytlifkfemdknndaa
