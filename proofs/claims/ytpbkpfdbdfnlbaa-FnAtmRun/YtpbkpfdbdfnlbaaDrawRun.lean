/-
  DrawAtmRun of the model: ranges, a store, who asks, and what, one behind the other.
-/
import Derived.Test.YtpbkpfdbdfnlbaaRowQ
namespace Go.Proofs.Ytpbkpfdbdfnlbaa
open Go.RowKit
set_option linter.unusedSimpArgs false
set_option linter.unusedVariables false

theorem six {w : World} {b : Nat} (h : w.heap[b]? = some (.cells #[.int .i64 0, .int .i64 0, .int .i64 0, .int .i64 0, .int .i64 0, .int .i64 1] 3 (0, 0))) (k : Nat) (hk : k < 6) : ∃ y : Nat, y < 2 ∧ w.cell? ⟨b, k, none⟩ = some (.int .i64 (y : Int)) := by
  rw [heap_cell h]
  match k, hk with
  | 0, _ => exact ⟨0, by omega, rfl⟩
  | 1, _ => exact ⟨0, by omega, rfl⟩
  | 2, _ => exact ⟨0, by omega, rfl⟩
  | 3, _ => exact ⟨0, by omega, rfl⟩
  | 4, _ => exact ⟨0, by omega, rfl⟩
  | 5, _ => exact ⟨1, by omega, rfl⟩
theorem two_of {w : World} {b : Nat} {x0 x1 : Int} (h : w.heap[b]? = some (.cells #[.int .i64 x0, .int .i64 x1] 3 (0, 0))) (k : Nat) (hk : k < 2) : ∃ x : Int, w.cell? ⟨b, k, none⟩ = some (.int .i64 x) := by
  rw [heap_cell h]
  match k, hk with
  | 0, _ => exact ⟨x0, rfl⟩
  | 1, _ => exact ⟨x1, rfl⟩

def lenOf : Value → Nat
  | .slice _ n _ => n
  | _ => 0

/-- what the row holds while it is drawn: at most n things -/
def QAt (B M : Nat) (w5 : World) (n P : Nat) (v : Value) (wx : World) : Prop := ∃ (l : List Rq) (g cp p : Nat), v = .slice (some ⟨g, 0, none⟩) l.length cp ∧ Hid (QSt B M w5 wx g cp l p) ∧ l.length ≤ n ∧ p ≤ P

set_option maxRecDepth 100000 in
set_option maxHeartbeats 4000000 in
theorem drawAtmRun_any (a : Option Addr) (len cap : Nat) (w : World) (hc : len ≤ cap) (hm : cap ≤ 9223372036854775807) (h : Bytes w w.heap.size a len) :
    Calls Try.prog 6 #[.slice a len cap] w fun e w' => ∃ (b c : Nat) (ms : List Rng) (s : Stt) (bw ow cw bh oh ch : Nat) (who : Int) (g gc : Nat) (l : List Rq), e = .returned (.tuple #[.slice (some ⟨b, 0, none⟩) ms.length c, stV s (some ⟨bw, ow, none⟩) cw (some ⟨bh, oh, none⟩) ch, .int .i64 who, .slice (some ⟨g, 0, none⟩) l.length gc]) ∧ RowOf w' (some ⟨b, 0, none⟩) ms ∧ ms.length ≤ c ∧ c ≤ 9223372036854775807 ∧ 1 ≤ ms.length ∧ ms.length ≤ 7 ∧ StAt w' s (some ⟨bw, ow, none⟩) cw (some ⟨bh, oh, none⟩) ch ∧ s.words.length ≤ 65 ∧ s.holds.length ≤ 6 ∧ RqsAt w' (some ⟨g, 0, none⟩) l ∧ l.length ≤ gc ∧ gc ≤ 9223372036854775807 ∧ l.length ≤ 13 ∧ Below w.heap.size w w' := by
  go_enter Try.func6, Try.ntmps6
  go_wp2_with fail
  refine (open_any a len cap _ hc hm (bytes_alloc h _)).mono ?_
  rintro e W0 ⟨rfl, hr0, hb0⟩
  have hs0 := hb0.size
  simp only [World.size_alloc] at hr0 hs0 ⊢
  have c3 : W0.heap[w.heap.size]? = some (.cells #[.slice none 0 0, .slice none 0 0] 28 (0, 0)) := (hb0.block w.heap.size (by simp)).trans (nw_at _ rfl)
  have hbW : Below w.heap.size w W0 := ((Below.refl _ w).alloc (Nat.le_refl _) _).trans (hb0.mono (by simp))
  have hBl := hr0.lt
  clear hb0 h
  obtain ⟨R3, e3⟩ : ∃ R, R = w.heap.size := ⟨_, rfl⟩
  obtain ⟨B, eB⟩ : ∃ R, R = w.heap.size + 1 := ⟨_, rfl⟩
  rw [← eB] at hr0 hBl hs0 ⊢
  rw [← e3] at c3 ⊢
  have hB3 : R3 ≠ B := by omega
  have hBw : w.heap.size ≤ B := by omega
  have hR3w : w.heap.size ≤ R3 := by omega
  have hR3B : R3 < B := by omega
  clear eB e3
  have HC3 := Hid.intro c3
  have HBW := Hid.intro hbW
  have HR0 := Hid.intro hr0
  clear c3 hbW hr0
  go_wp2_with fail
  refine (l20Map_any B 0 20 W0 HR0.out (by omega) (by omega) (by omega)).mono ?_
  rintro e w1 ⟨v, rfl, b, c, q1, ms, rfl, x1, x7, xc, xm, hM1, _, hbn, hr1, hq1, hK1⟩
  have HM1 := Hid.intro hM1
  have HR1 := Hid.intro hr1
  have HK1 := Hid.intro hK1
  have HX := Hid.intro (And.intro x1 (And.intro x7 (And.intro xc xm)))
  clear hM1 hr1 hK1 x1 x7 xc xm
  go_wp2_with fail
  refine (l20Atm_any B q1 20 w1 HR1.out (by omega) (by omega) (by omega)).mono ?_
  rintro e w2 ⟨v, rfl, s, bw, ow, cw, bh, oh, ch, q2, rfl, hS2, y1, y2, hr2, hq2, hK2, hbw, hbh⟩
  have hs1 := HK1.out.size
  have hs2 := hK2.size
  have hbl : b < w1.heap.size := by
    rcases HM1.out with h | ⟨b', off, e, hlt, _⟩
    · have := HX.out.1; rw [h] at this; simp at this
    · cases e; exact hlt
  have HM2 : Hid (RowOf w2 (some ⟨b, 0, none⟩) ms) := Hid.intro (HM1.out.of hK2.size (fun b' off e hlt => by cases e; exact hK2.block _ hlt (by omega)))
  have HC32 := Hid.intro ((hK2.block R3 (by omega) hB3).trans ((HK1.out.block R3 (by omega) hB3).trans HC3.out))
  have HK02 := Hid.intro (HK1.out.trans hK2)
  have HS2 := Hid.intro hS2
  have HR2 := Hid.intro hr2
  have HY := Hid.intro (And.intro y1 y2)
  clear HM1 HR1 HK1 HC3 HR0 hS2 hr2 hK2 y1 y2
  unfold stV
  go_wp2_with fail
  obtain ⟨w2', hw2'⟩ : ∃ w2', w2.alloc (.cells #[.slice (some ⟨bw, ow, none⟩) s.words.length cw, .slice (some ⟨bh, oh, none⟩) s.holds.length ch] 28) = w2' := ⟨_, rfl⟩
  have hg2 : Gr w2 w2' := by rw [← hw2']; exact below_nw _ _
  have c82 : w2'.heap[w2.heap.size]? = some (.cells #[.slice (some ⟨bw, ow, none⟩) s.words.length cw, .slice (some ⟨bh, oh, none⟩) s.holds.length ch] 28 (0, 0)) := by rw [← hw2']; exact nw_at _ rfl
  rw [hw2']
  clear hw2'
  obtain ⟨R8, e8⟩ : ∃ R, R = w2.heap.size := ⟨_, rfl⟩
  rw [← e8] at c82 ⊢
  have HM3 := Hid.intro (HM2.out.below hg2)
  have HS3 := Hid.intro (HS2.out.below hg2)
  have HC33 := Hid.intro (hg2.cells HC32.out)
  have hs3 := hg2.size
  have hl8 := heap_lt c82
  have hR8B : B < R8 := by omega
  have hB2 : B < w2'.heap.size := by omega
  have hb2 : b < w2'.heap.size := by omega
  have hbB : B < b := by omega
  have hwB : B < bw := by omega
  have hhB : B < bh := by omega
  have HR2' := Hid.intro (HR2.out.below hg2)
  have HC82 := Hid.intro c82
  have HK02' : Hid (Keep B W0 w2') := Hid.intro (HK02.out.trans ⟨hg2.os, hg2.tape, hg2.output, hg2.size, fun k hk _ => hg2.block k hk⟩)
  clear c82 hg2 HM2 HS2 HC32 HR2 HK02 e8 hbl hs1 hs2 hs3 hbw hbh hbn hs0 hBl
  refine (pick_at HR2'.out (by omega) 3 (by omega) (by omega)).mono ?_
  rintro e w3 ⟨k3, a3, b3, rfl, hr3, hK3⟩
  have HR3 := Hid.intro hr3
  have HK3 := Hid.intro hK3
  clear hr3 hK3 HR2'
  go_wp2_with fail
  refine (pick_at ((HR3.out.alloc (.cells #[.int .i64 k3, .int .i64 (-1)] 3)).alloc (.cells #[.int .i64 0, .int .i64 0, .int .i64 0, .int .i64 0, .int .i64 0, .int .i64 1] 3)) (by omega) 6 (by omega) (by omega)).mono ?_
  rintro e w4 ⟨k4, a4, b4, rfl, hr4, hK4⟩
  obtain ⟨kn, rfl⟩ := Int.eq_ofNat_of_zero_le a4
  have hs4 := HK3.out.size
  have hs5 := hK4.size
  simp only [World.size_alloc] at hs5
  have h20 : w4.heap[w3.heap.size]? = some (.cells #[.int .i64 k3, .int .i64 (-1)] 3 (0, 0)) := (hK4.block _ (by simp; omega) (by omega)).trans (two_at0 _ _ _)
  have h21 : w4.heap[w3.heap.size + 1]? = some (.cells #[.int .i64 0, .int .i64 0, .int .i64 0, .int .i64 0, .int .i64 0, .int .i64 1] 3 (0, 0)) := (hK4.block _ (by simp) (by omega)).trans (two_at1 _ _ _)
  have hK34 : Keep B w2' w4 := ((HK3.out.alloc _).alloc _).trans hK4
  have HM4 : Hid (RowOf w4 (some ⟨b, 0, none⟩) ms) := Hid.intro (HM3.out.of hK34.size (fun b' off e hlt => by cases e; exact hK34.block _ hlt (by omega)))
  have HS4 : Hid (StAt w4 s (some ⟨bw, ow, none⟩) cw (some ⟨bh, oh, none⟩) ch) := Hid.intro ⟨HS3.out.words.of hK34.size (fun b' off e hlt => by cases e; exact hK34.block _ hlt (by omega)), HS3.out.holds.of hK34.size (fun b' off e hlt => by cases e; exact hK34.block _ hlt (by omega)), HS3.out.cw1, HS3.out.cw2, HS3.out.ch1, HS3.out.ch2⟩
  have HC34 := Hid.intro ((hK34.block R3 (by omega) hB3).trans HC33.out)
  have HC84 := Hid.intro ((hK34.block R8 (by omega) (by omega)).trans HC82.out)
  obtain ⟨y, hy, cy⟩ := six h21 kn (by omega)
  obtain ⟨x, cx⟩ := two_of h20 y hy
  have HKW : Hid (Keep B W0 w4) := Hid.intro (HK02'.out.trans hK34)
  have hkn0 : (0 : Int) ≤ (kn : Int) := by omega
  have hkn1 : (kn : Int) < 6 := by omega
  have hy0 : (0 : Int) ≤ (y : Int) := by omega
  have hy1 : (y : Int) < 2 := by omega
  have HR4 := Hid.intro hr4
  have hB4 : B < w4.heap.size := by omega
  have hl84 : R8 < w4.heap.size := by omega
  have hb4 : b < w4.heap.size := by omega
  clear h20 h21 hK34 HM3 HS3 HC33 HC82 HK02' HK3 hr4 hK4 HR3 hs4 hs5
  go_wp2_with fail
  refine (pick_at (HR4.out.alloc _) (by omega) 9 (by omega) (by omega)).mono ?_
  rintro e w5 ⟨k5, a5, b5, rfl, hr5, hK5⟩
  have hs6 := hK5.size
  simp only [World.size_alloc] at hs6
  have hQ0 : QSt B w4.heap.size w5 w5 w4.heap.size 0 [] (q2 + 1 + 1 + 1) := by
    have := (QMk.new (M := w4.heap.size) (w := w4) (Nat.le_refl _)).of hK5.size (fun k hk hM => hK5.block k hk (by omega))
    exact ⟨this, hr5, KeepM.refl _ _ _, hB4, by omega⟩
  have hK45 : Keep B w4 w5 := ((Keep.refl B w4).alloc (.cells #[] 40)).trans hK5
  have hkW5 := HKW.out.trans hK45
  have FIN : Hid (∀ W, KeepM w4.heap.size B w5 W → RowOf W (some ⟨b, 0, none⟩) ms ∧ StAt W s (some ⟨bw, ow, none⟩) cw (some ⟨bh, oh, none⟩) ch ∧ W.heap[R3]? = some (.cells #[.slice none 0 0, .slice none 0 0] 28 (0, 0)) ∧ W.heap[R8]? = some (.cells #[.slice (some ⟨bw, ow, none⟩) s.words.length cw, .slice (some ⟨bh, oh, none⟩) s.holds.length ch] 28 (0, 0)) ∧ Below w.heap.size w W) := by
    refine Hid.intro (fun W hW => ?_)
    have hbW := HBW.out
    have hM4 := HM4.out
    have hS4 := HS4.out
    have blk : ∀ k, k < w4.heap.size → k ≠ B → W.heap[k]? = w4.heap[k]? := fun k hk hn => (hW.block k hk hn).trans (hK45.block k hk hn)
    have hsz := Nat.le_trans hK45.size hW.size
    refine ⟨hM4.of hsz (fun b' off e hlt => by cases e; exact blk _ hlt (by omega)), ⟨hS4.words.of hsz (fun b' off e hlt => by cases e; exact blk _ hlt (by omega)), hS4.holds.of hsz (fun b' off e hlt => by cases e; exact blk _ hlt (by omega)), hS4.cw1, hS4.cw2, hS4.ch1, hS4.ch2⟩, (blk R3 (heap_lt HC34.out) hB3).trans HC34.out, (blk R8 (heap_lt HC84.out) (by omega)).trans HC84.out, ?_⟩
    have z1 := hbW.size
    have z2 := HKW.out.size
    have z3 := hkW5.size
    have z4 := hW.size
    exact ⟨hW.os.trans (hkW5.os.trans hbW.os), hW.tape.trans (hkW5.tape.trans hbW.tape), hW.output.trans (hkW5.output.trans hbW.output), by omega, fun k hk => (hW.block k (by omega) (by omega)).trans ((hkW5.block k (by omega) (by omega)).trans (hbW.block k hk))⟩
  have HQ0 := Hid.intro hQ0
  generalize hMM : w4.heap.size = M at FIN HQ0 ⊢
  have hMM' : M ≤ w5.heap.size := by omega
  have hR3M : R3 < M := by omega
  have hR8M : R8 < M := by omega
  clear hK45 hkW5 HKW hK5 hQ0 HM4 HS4 HC34 HC84 HBW HR4 hr5 cy cx hMM hB4 hl84 hb4 hs6
  go_upto_block 0 with fail
  go_cut [10] (fun s10 wx => QAt B M w5 8 200000 s10 wx)
  case first =>
    go_wp2
    go_loopw [11, 10] (fun i t wr => ∃ (kk : Int) (l : List Rq) (g cp p : Nat), i = .int .i64 kk ∧ 0 ≤ kk ∧ t = .slice (some ⟨g, 0, none⟩) l.length cp ∧ Hid (QSt B M w5 wr g cp l p) ∧ p ≤ 16000 + 20000 * l.length ∧ (l.length : Int) + kk ≤ 8) (fun i _ _ => (intOf i).toNat)
    case atStart => exact ⟨k5, [], M, 0, _, rfl, a5, rfl, HQ0, by simp; omega, by simp; omega⟩
    case round =>
      obtain ⟨kk, l, g, cp, p, rfl, hk0, rfl, HQ, hp, hlk⟩ := hrel
      clear HQ0
      by_cases hpos : 0 < kk
      · go_wp2_with fail
        refine (l20Req_any B p 99999 _ HQ.out.rd (by omega) (by omega) (by omega)).mono ?_
        rintro e w6 ⟨v, rfl, r, pd, cd, pl, cl, p', rfl, hR, z1, z2, hr6, hp6, hK6, hd, hl⟩
        have HR := Hid.intro (And.intro hR (And.intro hr6 (And.intro hK6 (And.intro hd hl))))
        have hn6 := below_nw w6 (.cells #[.int .i64 r.id, .int .i64 r.kind, .int .i64 r.addr, .int .i64 r.many, .bool r.wrap, .slice pd r.data.length cd, .slice pl r.lanes.length cl] 40)
        have hrow := Hid.intro ((HQ.out.keep hK6 hr6).qm.row.of (hn6.block _ (HQ.out.keep hK6 hr6).qm.row.lt))
        have hcp := Hid.intro HQ.out.qm.cap1
        have hY := Hid.intro (show (w6.alloc (.cells #[.int .i64 r.id, .int .i64 r.kind, .int .i64 r.addr, .int .i64 r.many, .bool r.wrap, .slice pd r.data.length cd, .slice pl r.lanes.length cl] 40)).heap[w6.heap.size]? = some (.cells (Rq.mk r pd cd pl cl).cells.toArray 40 (0, 0)) from nw_at _ rfl)
        clear hR hr6 hK6 hd hl hn6
        unfold reqV
        go_wp2_with (at_builtin; refine wpList_appQ l ⟨r, pd, cd, pl, cl⟩ rfl rfl rfl rfl hrow.out hcp.out rfl hY.out (by omega) ?_; intro g' cp' w8 hr8 hc8 hg8 hG8; have HR8 := Hid.intro (And.intro hr8 (And.intro hc8 (And.intro hg8 hG8))); clear hr8 hc8 hg8 hG8 hrow hY)
        go_roundw
        case rel =>
          obtain ⟨hR, hr6, hK6, hd, hl⟩ := HR.out
          obtain ⟨k1, k2, k3, k4⟩ := HR8.out
          exact ⟨kk - 1, l ++ [⟨r, pd, cd, pl, cl⟩], g', cp', p', by go_num, by omega, by simp, Hid.intro (HQ.out.app hK6 hr6 hR hd hl k1 k2 k3 k4), by simp; omega, by simp; omega⟩
        case measure => simp [intOf]; omega
      · go_wp2
        go_meet
        case rel => exact ⟨l, g, cp, p, rfl, HQ, by omega, by omega⟩
  case rest =>
    obtain ⟨l, g, cp, p, rfl, HQ, hln, hp⟩ := hcut
    clear HQ0
    go_wp2_with fail
    refine (odd_any B p 20 wc HQ.out.rd (by omega) (by omega) (by omega)).mono ?_
    rintro e w6 ⟨bo, rfl, hr6, hK6⟩
    have HQ6 := Hid.intro (HQ.out.keep hK6 hr6)
    clear HQ hr6 hK6
    go_upto_if 41 with fail
    go_cut [10] (fun s10 wx => QAt B M w5 9 300000 s10 wx)
    case first =>
      cases bo
      · go_wp2
        go_meet
        case rel => exact ⟨l, g, cp, _, rfl, HQ6, by omega, by omega⟩
      · go_wp2_with fail
        refine (l20Req_any B (p + 1) 1 _ HQ6.out.rd (by omega) (by omega) (by omega)).mono ?_
        rintro e w7 ⟨v, rfl, r, pd, cd, pl, cl, p', rfl, hR, z1, z2, hr7, hp7, hK7, hd, hl⟩
        have HR := Hid.intro (And.intro hR (And.intro hr7 (And.intro hK7 (And.intro hd hl))))
        have hn7 := below_nw w7 (.cells #[.int .i64 r.id, .int .i64 r.kind, .int .i64 r.addr, .int .i64 r.many, .bool r.wrap, .slice pd r.data.length cd, .slice pl r.lanes.length cl] 40)
        have hrow := Hid.intro ((HQ6.out.keep hK7 hr7).qm.row.of (hn7.block _ (HQ6.out.keep hK7 hr7).qm.row.lt))
        have hcp := Hid.intro HQ6.out.qm.cap1
        have hY := Hid.intro (show (w7.alloc (.cells #[.int .i64 r.id, .int .i64 r.kind, .int .i64 r.addr, .int .i64 r.many, .bool r.wrap, .slice pd r.data.length cd, .slice pl r.lanes.length cl] 40)).heap[w7.heap.size]? = some (.cells (Rq.mk r pd cd pl cl).cells.toArray 40 (0, 0)) from nw_at _ rfl)
        clear hR hr7 hK7 hd hl hn7
        unfold reqV
        go_wp2_with (at_builtin; refine wpList_appQ l ⟨r, pd, cd, pl, cl⟩ rfl rfl rfl rfl hrow.out hcp.out rfl hY.out (by omega) ?_; intro g' cp' w8 hr8 hc8 hg8 hG8; have HR8 := Hid.intro (And.intro hr8 (And.intro hc8 (And.intro hg8 hG8))); clear hr8 hc8 hg8 hG8 hrow hY)
        go_meet
        case rel =>
          obtain ⟨hR, hr6, hK6, hd, hl⟩ := HR.out
          obtain ⟨k1, k2, k3, k4⟩ := HR8.out
          exact ⟨l ++ [⟨r, pd, cd, pl, cl⟩], g', cp', p', by simp, Hid.intro (HQ6.out.app hK6 hr6 hR hd hl k1 k2 k3 k4), by simp; omega, by omega⟩
    case rest =>
      clear HQ6 hln hp
      obtain ⟨l, g, cp, p, rfl, HQ, hln, hp⟩ := hcut
      go_wp2_with fail
      refine (odd_any B p 30 wc HQ.out.rd (by omega) (by omega) (by omega)).mono ?_
      rintro e w6 ⟨bp, rfl, hr6, hK6⟩
      have HQ6 := Hid.intro (HQ.out.keep hK6 hr6)
      clear HQ hr6 hK6
      go_upto_if 48 with fail
      go_cut [10] (fun s10 wx => QAt B M w5 13 400000 s10 wx)
      case first =>
        cases bp
        · go_wp2
          go_meet
          case rel => exact ⟨l, g, cp, _, rfl, HQ6, by omega, by omega⟩
        · go_wp2
          go_loopw [10] (fun t wr => ∃ (l : List Rq) (g cp p : Nat), t = .slice (some ⟨g, 0, none⟩) l.length cp ∧ Hid (QSt B M w5 wr g cp l p) ∧ p ≤ 300001 ∧ l.length ≤ 13) (fun t _ => 13 - lenOf t)
          case atStart => exact ⟨l, g, cp, _, rfl, HQ6, by omega, by omega⟩
          case round =>
            clear HQ6 hln hp
            obtain ⟨l, g, cp, p, rfl, HQ, hp, hln⟩ := hrel
            by_cases hpos : l.length ≤ 12
            · have hpi : (l.length : Int) ≤ 12 := by omega
              have hn7 := below_nw wr (.cells #[.int .i64 0, .int .i64 1, .int .i64 0, .int .i64 1, .bool false, .slice none 0 0, .slice none 0 0] 40)
              have hrow := Hid.intro (HQ.out.qm.row.of (hn7.block _ HQ.out.qm.row.lt))
              have hcp := Hid.intro HQ.out.qm.cap1
              have hY := Hid.intro (show (wr.alloc (.cells #[.int .i64 0, .int .i64 1, .int .i64 0, .int .i64 1, .bool false, .slice none 0 0, .slice none 0 0] 40)).heap[wr.heap.size]? = some (.cells (Rq.mk ⟨0, 1, 0, 1, false, [], []⟩ none 0 none 0).cells.toArray 40 (0, 0)) from nw_at _ rfl)
              clear hn7
              go_wp2_with (at_builtin; refine wpList_appQ l ⟨⟨0, 1, 0, 1, false, [], []⟩, none, 0, none, 0⟩ rfl rfl rfl rfl hrow.out hcp.out rfl hY.out (by omega) ?_; intro g' cp' w8 hr8 hc8 hg8 hG8; have HR8 := Hid.intro (And.intro hr8 (And.intro hc8 (And.intro hg8 hG8))); clear hr8 hc8 hg8 hG8 hrow hY)
              go_roundw
              case rel =>
                obtain ⟨k1, k2, k3, k4⟩ := HR8.out
                exact ⟨l ++ [⟨⟨0, 1, 0, 1, false, [], []⟩, none, 0, none, 0⟩], g', cp', p, by simp, Hid.intro (HQ.out.app (Keep.refl _ _) HQ.out.rd ⟨.inl rfl, .inl rfl, by simp, by simp, by simp, by simp⟩ (fun _ _ e => by cases e) (fun _ _ e => by cases e) k1 k2 k3 k4), hp, by simp; omega⟩
              case measure => simp [lenOf]; omega
            · have hpi : ¬ (l.length : Int) ≤ 12 := by omega
              go_wp2
              go_meet
              case rel => exact ⟨l, g, cp, p, rfl, HQ, by omega, by omega⟩
      case rest =>
        clear HQ6 hln hp
        obtain ⟨l, g, cp, p, rfl, HQ, hln, hp⟩ := hcut
        obtain ⟨hM, hS, h3, h8, hbel⟩ := FIN.out wc HQ.out.km
        have s0 : wc.cell? ⟨R8, 0, none⟩ = some (.slice (some ⟨bw, ow, none⟩) s.words.length cw) := heap_cell h8 0
        have s1 : wc.cell? ⟨R8, 1, none⟩ = some (.slice (some ⟨bh, oh, none⟩) s.holds.length ch) := heap_cell h8 1
        have r0 : wc.cell? ⟨R3, 0, none⟩ = some (.slice none 0 0) := heap_cell h3 0
        have r1 : wc.cell? ⟨R3, 1, none⟩ = some (.slice none 0 0) := heap_cell h3 1
        have f0 := heap_free h3 0
        have f1 := heap_free h3 1
        have p3 := set2 h3 (.slice (some ⟨bw, ow, none⟩) s.words.length cw) (.slice (some ⟨bh, oh, none⟩) s.holds.length ch)
        have z0 := heap_cell p3 0
        have z1 := heap_cell p3 1
        simp at z0 z1
        have HKS := Hid.intro (set2_kept wc R3 (.slice (some ⟨bw, ow, none⟩) s.words.length cw) (.slice (some ⟨bh, oh, none⟩) s.holds.length ch))
        have HE := Hid.intro (And.intro hM (And.intro hS hbel))
        have hl3 := heap_lt h3
        clear hM hS h3 h8 hbel p3
        go_wp2_with fail
        go_region
        go_wp2
        refine bodyPost_ret (v := .tuple #[.slice (some ⟨b, 0, none⟩) ms.length c, .agg #[.slice (some ⟨bw, ow, none⟩) s.words.length cw, .slice (some ⟨bh, oh, none⟩) s.holds.length ch], .int .i64 x, .slice (some ⟨g, 0, none⟩) l.length cp]) (by simp [results, Try.results6, go_sem, z0, z1]) rfl ?_
        obtain ⟨hM, hS, hbel⟩ := HE.out
        have hk := HKS.out
        have hq := HQ.out.qm
        obtain ⟨x1, x7, xc, xm⟩ := HX.out
        obtain ⟨y1, y2⟩ := HY.out
        have hgM := hq.gM
        refine ⟨b, c, ms, s, bw, ow, cw, bh, oh, ch, x, g, cp, l, rfl, hM.of hk.size (fun b' off e hlt => by cases e; exact hk.block _ hlt (by omega)), xc, xm, x1, x7, ⟨hS.words.of hk.size (fun b' off e hlt => by cases e; exact hk.block _ hlt (by omega)), hS.holds.of hk.size (fun b' off e hlt => by cases e; exact hk.block _ hlt (by omega)), hS.cw1, hS.cw2, hS.ch1, hS.ch2⟩, y1, y2, QMk.rqs (M := M) (cap := cp) (hq.of hk.size (fun k hk' hM' => hk.block k hk' (by omega))), hq.len, by have := hq.cap1; unfold maxLen at this; omega, hln, ?_⟩
        exact hbel.trans ⟨hk.os, hk.tape, hk.output, hk.size, fun k hk' => hk.block k (by have := hbel.size; omega) (by omega)⟩

end Go.Proofs.Ytpbkpfdbdfnlbaa
