/-
  Proved: who holds another address holds that alone: behind what holds, by the same name, another address, a try of the first one is not held; by the other name it is. At every code (a row of bytes of any length) the law answers true and leaves its argument as it was. No condition.
-/
import Derived.Test.YtpbkpfdbdfnlbaaProg
import Derived.Test.YtpbkpfdbdfnlbaaCrOkM
import Derived.Test.YtpbkpfdbdfnlbaaSpcH
import Derived.Test.YtpbkpfdbdfnlbaaTryP
import Derived.Test.YtpbkpfdbdfnlbaaReq
import Derived.Test.YtpbkpfdbdfnlbaaSpcA
import Derived.Test.YtpbkpfdbdfnlbaaRunIM
import Derived.Test.YtpbkpfdbdfnlbaaImpA
import Derived.BigQuiet
import Derived.Test.YtpbkpfdbdfnlbaaRows
import Derived.Test.YtpbkpfdbdfnlbaaLawB
/-
  The law FnAtmOther, walked, by what AtmRun of the program answers.
-/
namespace Go.Proofs.Ytpbkpfdbdfnlbaa
open Go.RowKit
set_option linter.unusedSimpArgs false
set_option linter.unusedVariables false

theorem calls_gen {P : Program} {F : Nat} {args : Array Value} {W : World} {Q : Ending → World → Prop} (R : World → Prop) (hR : R W) (h : ∀ W', R W' → Calls P F args W' Q) : Calls P F args W Q := h W hR
theorem ints1 {w : World} {b : Nat} {v : Int} (h : w.heap[b]? = some (.cells #[.int .i64 v] 3 (0, 0))) : IntsAt w (some ⟨b, 0, none⟩) [v] :=
  .inr ⟨b, 0, rfl, heap_lt h, fun k hk => by
    have : k = 0 := by simp at hk; omega
    subst this
    exact heap_cell h 0⟩
theorem row1 {w : World} {b : Nat} (h : w.heap[b]? = some (.cells #[.int .i64 0, .int .i64 63, .int .i64 0, .bool false] 53 (0, 0))) : RowOf w (some ⟨b, 0, none⟩) ms1 :=
  .inr ⟨b, 0, rfl, heap_lt h, fun k hk => by
    have : k = 0 := by simp [ms1] at hk; omega
    subst this
    exact ⟨heap_cell h 0, heap_cell h 1, heap_cell h 2, heap_cell h 3⟩⟩

def thirdQ (a : Int) : Req := ⟨0, 4, a, 1, false, [1], [3]⟩
theorem thirdQ_ok {a : Int} (h0 : 0 ≤ a) (h1 : a ≤ 63) : reqOkB (thirdQ a) = true := by
  have := adr1 h0 h1
  simp [thirdQ, reqOkB, reqHeadB, reqOneB, writesB, reqWordsB, inB, this, allIn]
theorem third_code {s : Stt} {a : Int} (hs : stOkB s = true) (h0 : 0 ≤ a) (h1 : a ≤ 63) : (atmDo ms1 s 1 (thirdQ a)).2.code = if getZ s.holds 2 = a then 2 else 1 := by
  have hb : burst (thirdQ a).addr (thirdQ a).many (thirdQ a).wrap = [a] := burst1 h0 h1
  have hz : ¬ wholeZ ms1 (burst (thirdQ a).addr (thirdQ a).many (thirdQ a).wrap) < 0 := by rw [hb, whole1 h0 h1]; omega
  have e : atR 1 (thirdQ a).id = 2 := rfl
  by_cases hh : getZ s.holds 2 = a
  · rw [atmDo_swap hz (not_deny hb h0 h1) rfl (by rw [e]; exact hh), if_pos hh]
  · rw [atmDo_miss hz (not_deny hb h0 h1) rfl (by rw [e]; exact hh), if_neg hh]
theorem hold_st {s : Stt} {id a : Int} (hs : stOkB s = true) (hi : id = 0 ∨ id = 1) (h0 : 0 ≤ a) (h1 : a ≤ 63) : (atmDo ms1 s 1 (holdQ id a)).1 = ⟨s.words, s.holds.set (atR 1 id).toNat a⟩ := by
  have hw : inB 1 0 2 = true := by decide
  have := hold_eq (who := 1) hs hw hi h0 h1
  rw [atmZ_may (ok1 hs hw (holdQ_ok hi h0 h1))] at this
  rw [this]
/-- FnAtmOther -/
theorem other_all {s : Stt} {id a : Int} {x : Stt} {ys : List Rs} (hs : stOkB s = true) (hi : id = 0 ∨ id = 1) (h0 : 0 ≤ a) (h1 : a ≤ 62) (h : runZ ms1 s 1 [holdQ 0 a, holdQ id (a + 1), thirdQ a] = (x, rsps ys)) :
    ∃ y0 y1 y2, ys = [y0, y1, y2] ∧ y2.x.code = if id = 1 then 2 else 1 := by
  have hw : inB 1 0 2 = true := by decide
  have hok : runOkB ms1 s 1 [holdQ 0 a, holdQ id (a + 1), thirdQ a] = true := by
    simp [runOkB, ms1_ok, hs, hw, progOkB, holdQ_ok (.inl rfl) h0 (show a ≤ 63 by omega), holdQ_ok hi (show 0 ≤ a + 1 by omega) (show a + 1 ≤ 63 by omega), thirdQ_ok h0 (show a ≤ 63 by omega)]
  rw [run_yes hok] at h
  injection h with _ h
  simp only [runRs] at h
  obtain ⟨_, hlen, _⟩ := (stOk_iff s).1 hs
  have e1 := hold_st (id := 0) hs (.inl rfl) h0 (show a ≤ 63 by omega)
  have ok1' := atmDo_ok (ok1 (r := holdQ 0 a) hs hw (holdQ_ok (.inl rfl) h0 (by omega)))
  have e2 := hold_st (s := (atmDo ms1 s 1 (holdQ 0 a)).1) ok1' hi (show 0 ≤ a + 1 by omega) (show a + 1 ≤ 63 by omega)
  have ok2' := atmDo_ok (ok1 (r := holdQ id (a + 1)) ok1' hw (holdQ_ok hi (by omega) (by omega)))
  have e3 := third_code (s := (atmDo ms1 (atmDo ms1 s 1 (holdQ 0 a)).1 1 (holdQ id (a + 1))).1) ok2' h0 (show a ≤ 63 by omega)
  have hl3 : ys.length = 3 := by have := congrArg List.length h; simpa [rsps] using this.symm
  obtain ⟨y0, y1, y2, rfl⟩ : ∃ y0 y1 y2, ys = [y0, y1, y2] := by
    match ys, hl3 with
    | [y0, y1, y2], _ => exact ⟨y0, y1, y2, rfl⟩
  · refine ⟨y0, y1, y2, rfl, ?_⟩
    simp only [rsps, List.map_cons, List.map_nil, List.cons.injEq, and_true] at h
    rw [← h.2.2, e3, e2, e1]
    simp only
    rcases hi with rfl | rfl
    · have g : getZ ((s.holds.set (atR 1 0).toNat a).set (atR 1 0).toNat (a + 1)) 2 = a + 1 := by
        rw [getZ_set _ _ (by decide) (by decide) (by first | omega | (simp; omega) | (simp [atR]; omega) | simp [atR, hlen]), if_pos (by decide)]
      rw [g, if_neg (by omega), if_neg (by omega)]
    · have g : getZ ((s.holds.set (atR 1 0).toNat a).set (atR 1 1).toNat (a + 1)) 2 = a := by
        rw [getZ_set _ _ (by decide) (by decide) (by first | omega | (simp; omega) | (simp [atR]; omega) | simp [atR, hlen]), if_neg (by decide), getZ_set _ _ (by decide) (by decide) (by first | omega | (simp; omega) | (simp [atR]; omega) | simp [atR, hlen]), if_pos (by decide)]
      rw [g, if_pos rfl, if_pos rfl]

theorem runF_at {F : Nat} (hF : AtmRunF F) {a : Option Addr} {c : Nat} {ms : List Rng} {s : Stt} {pw ph : Option Addr} {cw ch : Nat} {who : Int} {q : Option Addr} {qc : Nat} (l : List Rq) {rs : List Req} {n : Nat} {W : World} (hl : reqs l = rs) (hn : l.length = n)
    (hM : RowOf W a ms) (xc : ms.length ≤ c) (xm : c ≤ 9223372036854775807) (hS : StAt W s pw cw ph ch) (hQ : RqsAt W q l) (qc1 : n ≤ qc) (qc2 : qc ≤ 9223372036854775807) :
    Calls Try.prog F #[.slice a ms.length c, stV s pw cw ph ch, .int .i64 who, .slice q n qc] W fun e w' =>
      ∃ x qw dw qh dh g gc ys, e = .returned (.tuple #[stV x qw dw qh dh, .slice g ys.length gc]) ∧ runZ ms s who rs = (x, rsps ys) ∧ RunOut W.heap.size w' x ys qw dw qh dh g gc ∧ Below W.heap.size W w' := by
  subst hl hn
  refine (hF a c ms s pw ph cw ch who q qc l W hM xc xm hS hQ qc1 qc2).mono ?_
  rintro e w' ⟨qw, dw, qh, dh, g, gc, ys, h1, h2, h3, h4⟩
  exact ⟨_, qw, dw, qh, dh, g, gc, ys, h1, by rw [h2], h3, h4⟩

theorem row3 {w : World} {b : Nat} {q0 q1 q2 : Rq} (h : w.heap[b]? = some (.cells #[.int .i64 q0.r.id, .int .i64 q0.r.kind, .int .i64 q0.r.addr, .int .i64 q0.r.many, .bool q0.r.wrap, .slice q0.pd q0.r.data.length q0.cd, .slice q0.pl q0.r.lanes.length q0.cl,
    .int .i64 q1.r.id, .int .i64 q1.r.kind, .int .i64 q1.r.addr, .int .i64 q1.r.many, .bool q1.r.wrap, .slice q1.pd q1.r.data.length q1.cd, .slice q1.pl q1.r.lanes.length q1.cl,
    .int .i64 q2.r.id, .int .i64 q2.r.kind, .int .i64 q2.r.addr, .int .i64 q2.r.many, .bool q2.r.wrap, .slice q2.pd q2.r.data.length q2.cd, .slice q2.pl q2.r.lanes.length q2.cl] 40 (0, 0)))
    (h0 : ReqAt w q0.r q0.pd q0.cd q0.pl q0.cl) (h1 : ReqAt w q1.r q1.pd q1.cd q1.pl q1.cl) (h2 : ReqAt w q2.r q2.pd q2.cd q2.pl q2.cl) : RqsAt w (some ⟨b, 0, none⟩) [q0, q1, q2] := by
  refine ⟨.inr ⟨b, 0, rfl, heap_lt h, fun k hk => ?_⟩, fun q hq => ?_⟩
  · have : k = 0 ∨ k = 1 ∨ k = 2 := by simp at hk; omega
    rcases this with rfl | rfl | rfl
    · exact ⟨heap_cell h 0, heap_cell h 1, heap_cell h 2, heap_cell h 3, heap_cell h 4, heap_cell h 5, heap_cell h 6⟩
    · exact ⟨heap_cell h 7, heap_cell h 8, heap_cell h 9, heap_cell h 10, heap_cell h 11, heap_cell h 12, heap_cell h 13⟩
    · exact ⟨heap_cell h 14, heap_cell h 15, heap_cell h 16, heap_cell h 17, heap_cell h 18, heap_cell h 19, heap_cell h 20⟩
  · simp at hq
    rcases hq with rfl | rfl | rfl
    · exact h0
    · exact h1
    · exact h2
theorem atmOk_C (hI : AtmOkC) (s : Stt) (pw ph : Option Addr) (cw ch : Nat) (w : World) (h : StAt w s pw cw ph ch) : Calls Try.prog 20 #[stV s pw cw ph ch] w fun e w' => e = .returned (.bool (stOkB s)) ∧ Below w.heap.size w w' := hI s pw ph cw ch w h

set_option maxRecDepth 100000 in
set_option maxHeartbeats 8000000 in
theorem walkC_FnAtmOther (hI : AtmRunC) (a : Option Addr) (len cap : Nat) (w : World) (hc : len ≤ cap) (hm : cap ≤ 9223372036854775807) (h : Bytes w w.heap.size a len) :
    Calls Try.prog 5 #[.slice a len cap] w fun e w' => e = .returned (.bool true) ∧ Below w.heap.size w w' := by
  by_cases hl : 1048576 < len
  · have hI1 : (1048576 : Int) < (len : Int) := by omega
    clear h hI
    go_enter Try.func5, Try.ntmps5
    go_wp2
    go_ret
    exact ⟨rfl, Below.refl _ _⟩
  have hI1 : ¬ (1048576 : Int) < (len : Int) := by omega
  have HBy := Hid.intro h
  have HC := Hid.intro hI
  clear h hI
  go_enter Try.func5, Try.ntmps5
  go_wp2_with fail
  refine (drawAtmDo_any a len cap w hc hm HBy.out).mono ?_
  rintro e w1 ⟨b, c, ms, s, bw, ow, cw, bh, oh, ch, who0, r, pd, cd, pl, cl, rfl, _, _, _, _, _, hS, y1, y2, hR, z1, z2, hB1⟩
  clear HBy
  have HS1 := Hid.intro hS
  clear hS
  clear hR
  unfold stV reqV
  go_wp2_with fail
  refine (spec_AtmOk s _ _ cw ch _ (HS1.out.below (below_two _ _ _))).mono ?_
  rintro e w2 ⟨rfl, hb2⟩
  have hg2 : Below w1.heap.size w1 w2 := Below.trans (below_two w1 _ _) (hb2.mono (by simp; omega))
  have hs2 := hb2.size
  simp only [World.size_alloc] at hs2
  have HS2 := Hid.intro (HS1.out.below hg2)
  have hB2 := hB1.trans (hg2.mono hB1.size)
  have bS : w2.heap[w1.heap.size]? = some (.cells #[.slice (some ⟨bw, ow, none⟩) s.words.length cw, .slice (some ⟨bh, oh, none⟩) s.holds.length ch] 28 (0, 0)) := (hb2.block _ (by simp; omega)).trans (two_at0 _ _ _)
  obtain ⟨S, eS⟩ : ∃ v, v = w1.heap.size := ⟨_, rfl⟩
  have bQ : w2.heap[w1.heap.size + 1]? = some (.cells #[.int .i64 r.id, .int .i64 r.kind, .int .i64 r.addr, .int .i64 r.many, .bool r.wrap, .slice pd r.data.length cd, .slice pl r.lanes.length cl] 40 (0, 0)) := (hb2.block _ (by simp)).trans (two_at1 _ _ _)
  obtain ⟨Q, eQ⟩ : ∃ v, v = w1.heap.size + 1 := ⟨_, rfl⟩
  rw [← eQ] at bQ ⊢
  rw [← eS] at bS ⊢
  have lS2 : S < w2.heap.size := by omega
  have lQ2 : Q < w2.heap.size := by omega
  have BS2 := Hid.intro bS
  have BQ2 := Hid.intro bQ
  clear HS1 hB1 bS eS bQ eQ hb2 hg2 hs2
  clear BQ2 lQ2
  have cS0 : w2.cell? ⟨S, 0, none⟩ = some (.slice (some ⟨bw, ow, none⟩) s.words.length cw) := heap_cell BS2.out 0
  have cS1 : w2.cell? ⟨S, 1, none⟩ = some (.slice (some ⟨bh, oh, none⟩) s.holds.length ch) := heap_cell BS2.out 1
  cases k2 : stOkB s
  · go_wp2_with fail
    refine (impl_AtmOk s _ _ cw ch w2 (HS2.out)).mono ?_
    rintro e w3 ⟨rfl, hb3⟩
    rw [k2]
    have hB3 := hB2.trans (hb3.mono hB2.size)
    go_wp2_with (go_at_call 11; refine (crOk_any _).mono ?_; rintro e w' ⟨rfl, rfl⟩)
    go_ret
    exact ⟨rfl, hB3⟩
  have m1 : S < w2.heap.size + 1 := by omega
  have m2 : S < w2.heap.size + 1 + 1 := by omega
  have m3 : S < w2.heap.size + 1 + 1 + 1 := by omega
  have m4 : S < w2.heap.size + 1 + 1 + 1 + 1 := by omega
  have m5 : S < w2.heap.size + 1 + 1 + 1 + 1 + 1 := by omega
  have m6 : S < w2.heap.size + 1 + 1 + 1 + 1 + 1 + 1 := by omega
  have m7 : S < w2.heap.size + 1 + 1 + 1 + 1 + 1 + 1 + 1 := by omega
  go_wp2_with fail
  refine calls_gen (fun W' => Below w2.heap.size w2 W' ∧ W'.heap[w2.heap.size]? = some (.cells #[.int .i64 0, .int .i64 63, .int .i64 0, .bool false] 53 (0, 0)) ∧ W'.heap[w2.heap.size + 1]? = some (.cells #[.int .i64 0, .int .i64 3, .int .i64 ((len : Int) % 30), .int .i64 1, .bool false, .slice none 0 0, .slice none 0 0] 40 (0, 0)) ∧ W'.heap[w2.heap.size + 1 + 1]? = some (.cells #[.int .i64 ((len : Int) % 2), .int .i64 3, .int .i64 (((len : Int) % 30) + 1), .int .i64 1, .bool false, .slice none 0 0, .slice none 0 0] 40 (0, 0)) ∧ W'.heap[w2.heap.size + 1 + 1 + 1]? = some (.cells #[.int .i64 1] 3 (0, 0)) ∧ W'.heap[w2.heap.size + 1 + 1 + 1 + 1]? = some (.cells #[.int .i64 3] 3 (0, 0)) ∧ W'.heap[w2.heap.size + 1 + 1 + 1 + 1 + 1]? = some (.cells #[.int .i64 0, .int .i64 4, .int .i64 ((len : Int) % 30), .int .i64 1, .bool false, .slice (some ⟨w2.heap.size + 1 + 1 + 1, 0, none⟩) 1 1, .slice (some ⟨w2.heap.size + 1 + 1 + 1 + 1, 0, none⟩) 1 1] 40 (0, 0)) ∧ W'.heap[w2.heap.size + 1 + 1 + 1 + 1 + 1 + 1]? = some (.cells #[.int .i64 0, .int .i64 3, .int .i64 ((len : Int) % 30), .int .i64 1, .bool false, .slice none 0 0, .slice none 0 0, .int .i64 ((len : Int) % 2), .int .i64 3, .int .i64 (((len : Int) % 30) + 1), .int .i64 1, .bool false, .slice none 0 0, .slice none 0 0, .int .i64 0, .int .i64 4, .int .i64 ((len : Int) % 30), .int .i64 1, .bool false, .slice (some ⟨w2.heap.size + 1 + 1 + 1, 0, none⟩) 1 1, .slice (some ⟨w2.heap.size + 1 + 1 + 1 + 1, 0, none⟩) 1 1] 40 (0, 0))) ⟨?_, ?_, ?_, ?_, ?_, ?_, ?_, ?_⟩ ?_
  · exact ((((((((Below.refl _ w2).alloc (Nat.le_refl _) _).alloc (by simp <;> omega) _).alloc (by simp <;> omega) _).alloc (by simp <;> omega) _).alloc (by simp <;> omega) _).alloc (by simp <;> omega) _).alloc (by simp <;> omega) _)
  · exact (Below.heap_alloc _ _ _ (by simp <;> omega)).trans ((Below.heap_alloc _ _ _ (by simp <;> omega)).trans ((Below.heap_alloc _ _ _ (by simp <;> omega)).trans ((Below.heap_alloc _ _ _ (by simp <;> omega)).trans ((Below.heap_alloc _ _ _ (by simp <;> omega)).trans ((Below.heap_alloc _ _ _ (by simp <;> omega)).trans (nw_at _ (by simp)))))))
  · exact (Below.heap_alloc _ _ _ (by simp <;> omega)).trans ((Below.heap_alloc _ _ _ (by simp <;> omega)).trans ((Below.heap_alloc _ _ _ (by simp <;> omega)).trans ((Below.heap_alloc _ _ _ (by simp <;> omega)).trans ((Below.heap_alloc _ _ _ (by simp <;> omega)).trans (nw_at _ (by simp))))))
  · exact (Below.heap_alloc _ _ _ (by simp <;> omega)).trans ((Below.heap_alloc _ _ _ (by simp <;> omega)).trans ((Below.heap_alloc _ _ _ (by simp <;> omega)).trans ((Below.heap_alloc _ _ _ (by simp <;> omega)).trans (nw_at _ (by simp)))))
  · exact (Below.heap_alloc _ _ _ (by simp <;> omega)).trans ((Below.heap_alloc _ _ _ (by simp <;> omega)).trans ((Below.heap_alloc _ _ _ (by simp <;> omega)).trans (nw_at _ (by simp))))
  · exact (Below.heap_alloc _ _ _ (by simp <;> omega)).trans ((Below.heap_alloc _ _ _ (by simp <;> omega)).trans (nw_at _ (by simp)))
  · exact (Below.heap_alloc _ _ _ (by simp <;> omega)).trans (nw_at _ (by simp))
  · exact nw_at _ (by simp)
  rintro w3 ⟨hb3, f0, f1, f2, f3, f4, f5, f6⟩
  clear m1 m2 m3 m4 m5 m6 m7
  have hg3 := hb3
  have hs3 := hb3.size
  have BS3 := Hid.intro ((hg3.block S lS2).trans BS2.out)
  have HS3 := Hid.intro (HS2.out.below hg3)
  have hB3 := hB2.trans (hg3.mono hB2.size)
  have lS3 : S < w3.heap.size := by omega
  clear BS2 lS2 HS2 hB2 hb3 hg3 hs3 cS0 cS1
  obtain ⟨Al, eAl⟩ : ∃ v, v = w2.heap.size + 1 + 1 + 1 + 1 + 1 + 1 := ⟨_, rfl⟩
  first | rw [← eAl] at f6 ⊢ | rw [← eAl] at f6
  obtain ⟨Tr, eTr⟩ : ∃ v, v = w2.heap.size + 1 + 1 + 1 + 1 + 1 := ⟨_, rfl⟩
  first | rw [← eTr] at f5 ⊢ | rw [← eTr] at f5
  obtain ⟨Db, eDb⟩ : ∃ v, v = w2.heap.size + 1 + 1 + 1 + 1 := ⟨_, rfl⟩
  first | rw [← eDb] at f4 f5 f6 ⊢ | rw [← eDb] at f4 f5 f6
  obtain ⟨Da, eDa⟩ : ∃ v, v = w2.heap.size + 1 + 1 + 1 := ⟨_, rfl⟩
  first | rw [← eDa] at f3 f5 f6 ⊢ | rw [← eDa] at f3 f5 f6
  obtain ⟨El, eEl⟩ : ∃ v, v = w2.heap.size + 1 + 1 := ⟨_, rfl⟩
  first | rw [← eEl] at f2 ⊢ | rw [← eEl] at f2
  obtain ⟨Ho, eHo⟩ : ∃ v, v = w2.heap.size + 1 := ⟨_, rfl⟩
  first | rw [← eHo] at f1 ⊢ | rw [← eHo] at f1
  obtain ⟨La, eLa⟩ : ∃ v, v = w2.heap.size := ⟨_, rfl⟩
  first | rw [← eLa] at f0 ⊢ | rw [← eLa] at f0
  obtain ⟨ad, ead⟩ : ∃ v, v = (len : Int) % 30 := ⟨_, rfl⟩
  obtain ⟨id, eid⟩ : ∃ v, v = (len : Int) % 2 := ⟨_, rfl⟩
  rw [← ead] at f1 f2 f5 f6
  rw [← eid] at f2 f6
  have a0 : 0 ≤ ad := by omega
  have a1 : ad ≤ 29 := by omega
  have hid : id = 0 ∨ id = 1 := by omega
  clear ead eid eLa eHo eEl eDa eDb eTr eAl
  have BEl3 := Hid.intro f2
  have lEl3 := heap_lt f2
  have hM : RowOf w3 (some ⟨La, 0, none⟩) ms1 := row1 f0
  have hA : RqsAt w3 (some ⟨Al, 0, none⟩) [⟨holdQ 0 ad, none, 0, none, 0⟩, ⟨holdQ id (ad + 1), none, 0, none, 0⟩, ⟨thirdQ ad, some ⟨Da, 0, none⟩, 1, some ⟨Db, 0, none⟩, 1⟩] := row3 f6 ⟨.inl rfl, .inl rfl, by simp [holdQ], by simp, by simp [holdQ], by simp⟩ ⟨.inl rfl, .inl rfl, by simp [holdQ], by simp, by simp [holdQ], by simp⟩ ⟨ints1 f3, ints1 f4, by simp [thirdQ], by simp, by simp [thirdQ], by simp⟩
  clear f0 f1 f2 f3 f4 f5 f6
  refine (runF_at HC.out (ms := ms1) (qc := 3) (n := 3) [⟨holdQ 0 ad, none, 0, none, 0⟩, ⟨holdQ id (ad + 1), none, 0, none, 0⟩, ⟨thirdQ ad, some ⟨Da, 0, none⟩, 1, some ⟨Db, 0, none⟩, 1⟩] (rs := [holdQ 0 ad, holdQ id (ad + 1), thirdQ ad]) rfl rfl hM (by decide) (by omega) (HS3.out) hA (by omega) (by omega)).mono ?_
  rintro e w4 ⟨x, qw, dw, qh, dh, g, gc, ys, rfl, hz, hO, hb4⟩
  obtain ⟨v0, v1, v2, rfl, hcode⟩ := other_all k2 hid a0 (by omega) hz
  have hg4 := hb4
  have hs4 := hb4.size
  have BS4 := Hid.intro ((hg4.block S lS3).trans BS3.out)
  have BEl4 := Hid.intro ((hg4.block El lEl3).trans BEl3.out)
  have HS4 := Hid.intro (HS3.out.below hg4)
  have hB4 := hB3.trans (hg4.mono hB3.size)
  have lS4 : S < w4.heap.size := by omega
  have lEl4 : El < w4.heap.size := by omega
  clear BS3 lS3 BEl3 lEl3 HS3 hB3 hb4 hg4 hs4
  have cEl0 : w4.cell? ⟨El, 0, none⟩ = some (.int .i64 id) := heap_cell BEl4.out 0
  have cEl1 : w4.cell? ⟨El, 1, none⟩ = some (.int .i64 3) := heap_cell BEl4.out 1
  have cEl2 : w4.cell? ⟨El, 2, none⟩ = some (.int .i64 (ad + 1)) := heap_cell BEl4.out 2
  have cEl3 : w4.cell? ⟨El, 3, none⟩ = some (.int .i64 1) := heap_cell BEl4.out 3
  have cEl4 : w4.cell? ⟨El, 4, none⟩ = some (.bool false) := heap_cell BEl4.out 4
  have cEl5 : w4.cell? ⟨El, 5, none⟩ = some (.slice none 0 0) := heap_cell BEl4.out 5
  have cEl6 : w4.cell? ⟨El, 6, none⟩ = some (.slice none 0 0) := heap_cell BEl4.out 6
  rcases hO.row with hx | ⟨G, rfl, _, hrow⟩
  · simp at hx
  have u1 := hrow.get 7 _ (by simp [rsCells, Rs.cells]; rfl)
  have lG := hrow.lt
  have HW := Hid.intro hB4
  clear hO hz hrow hM hA k2 HC
  unfold stV
  rcases hid with rfl | rfl
  · rw [if_neg (by omega)] at hcode
    rw [hcode] at u1
    go_wp2
    go_ret
    exact ⟨rfl, hB4.trans ((below_nw _ _).mono hB4.size)⟩
  · rw [if_pos rfl] at hcode
    rw [hcode] at u1
    go_wp2
    go_ret
    exact ⟨rfl, hB4.trans ((below_nw _ _).mono hB4.size)⟩

end Go.Proofs.Ytpbkpfdbdfnlbaa

/-
  Proved: who holds another address holds that alone. At every code (a row of bytes of any length) the law answers true and leaves its argument as it was. No condition.
-/
namespace Go.Proofs.Ytpbkpfdbdfnlbaa.fnAtmOther
open Go.ChangeShapes Go.WideShapes Go.ChangeAt Go.RowKit
set_option linter.unusedVariables false
set_option linter.unusedSimpArgs false

set_option maxRecDepth 100000 in
theorem lifted (hI : AtmRunC) (os : Os) (started : os.Started) (H : Type) (enc : TypeId × Value → H) :
    ReturnsInHanded {} Try.checked os 5 .any (Rows.fnAtmOtherSpec.pre6 enc Try.prog Try.f5 Rows.fnAtmOtherRow.domain false) (Rows.fnAtmOtherSpec.post enc Try.prog Try.f5 false true false false) := by
  refine returnsInHanded_of_change (C := Try.checked) ownB started (by kernel_rfl) Try.func5
    (ChangeSpec.witness6 (enc := enc) (C := Try.checked) false ⟨#[], #[.slice none 0 0], []⟩ 8 (by kernel_rfl) (by kernel_rfl) (by kernel_rfl) (by kernel_rfl)) ?_
  intro W base args ds gs before hval0 hW hcnd _
  have hval : ∀ (j : Nat) t v, Try.f5.params[j]? = some t → args[j]? = some v → Value.okWide Try.prog W .any base t v := hval0
  have hW' := hW
  obtain ⟨p, q, hA0, hV, rfl, hfz, hnd⟩ := hW
  have hA : DataW.TrodAll enc Try.prog W 0 (fun _ => true) true Try.f5.params.toList args.toList ds p := hA0
  rw [Try.params5] at hA hval
  obtain ⟨v0, vs0, d0, ds0, p0, q0, hargs, rfl, rfl, h0, r0⟩ := trodAll_cons hA
  obtain ⟨rfl, rfl, rfl⟩ := trodAll_nil r0
  obtain rfl : args = #[v0] := by cases args; simp_all
  obtain ⟨rfl, rfl⟩ := trodVars_none hV
  obtain ⟨a0, len0, cap0, rfl⟩ := okWide_slice Try.underlying22 (hval 0 22 v0 rfl rfl)
  have k0 := h0
  have lt0 : ∀ x ∈ p0, x.block < W.heap.size := by obtain ⟨m, hm⟩ := k0; exact DataW.trod_lt m _ _ _ hm
  obtain ⟨hx, hc, hm⟩ := open_bytes h0
  clear hA0 hval0
  refine (walkC_FnAtmOther hI a0 len0 cap0 W hc hm hx).mono fun e W' ⟨he, bel⟩ => ?_
  subst he
  exact ⟨_, rfl, _, _, _, [], _, [], hW', trodAll_mk1 (shut_bool Try.underlying4 _), (trodAll_cons_mk (Below.trod laidOutC (by kernel_rfl) (of_decide_eq_true (by kernel_rfl)) k0 bel lt0) trodAll_mk0), rfl, bel.frame _, fun h => by cases h⟩

theorem over (hI : AtmRunC) : Rows.fnAtmOtherRow.holds Try.pinned (OpenSpec.ofChange Rows.fnAtmOtherSpec) :=
  OpenClaim.holds_of_wide 5 Try.f5 rfl rfl rfl rfl rfl rfl rfl ⟨rfl, rfl, rfl, rfl, rfl⟩ rfl rfl rfl rfl rfl (by kernel_rfl) Try.func5 (by kernel_rfl)
    (of_decide_eq_true (by kernel_rfl)) (by unfold Func.isWrapper; first | (rw [if_pos (by decide +kernel)]; kernel_rfl) | (rw [if_neg (by decide +kernel)]; exact ⟨rfl, rfl⟩))
    (fun os started H enc _ => lifted hI os started H enc)

theorem proved_of (hI : AtmRunC) : Rows.FnAtmOtherSaid := over hI
end Go.Proofs.Ytpbkpfdbdfnlbaa.fnAtmOther

namespace Go.Proofs.Ytpbkpfdbdfnlbaa.fnAtmOther

theorem proved : Rows.FnAtmOtherSaid := proved_of impl_AtmRun
end Go.Proofs.Ytpbkpfdbdfnlbaa.fnAtmOther
