/-
  Proved: what is apart may be done in either order. At every two codes (rows of bytes of any length) the law answers true and leaves its arguments as they were. No condition.
-/
import Derived.Test.YtcjlmdjiddadfaaProg
import Derived.Test.YtcjlmdjiddadfaaCrOkM
import Derived.Test.YtcjlmdjiddadfaaSpcH
import Derived.Test.YtcjlmdjiddadfaaBurstM
import Derived.Test.YtcjlmdjiddadfaaReq
import Derived.BigQuiet
import Derived.Test.YtcjlmdjiddadfaaRows
import Derived.Test.YtcjlmdjiddadfaaLawB
import Derived.Test.YtcjlmdjiddadfaaImpKM
/-
  The law FnAtmSwap, walked, by what AtmDo of the program answers.
-/
namespace Go.Proofs.Ytcjlmdjiddadfaa
open Go.RowKit
set_option linter.unusedSimpArgs false
set_option linter.unusedVariables false

theorem who_next {who : Int} (h0 : 0 ≤ who) (h1 : who ≤ 2) : inB ((who + 1).tmod 3) 0 2 = true := by
  have : who = 0 ∨ who = 1 ∨ who = 2 := by omega
  rcases this with rfl | rfl | rfl <;> decide

theorem Bytes.belowB {w w' : World} {a : Option Addr} {len : Nat} (h : Bytes w w.heap.size a len) (hb : Below w.heap.size w w') : Bytes w' w'.heap.size a len := by
  rcases h with h | ⟨b, off, h1, h2, h3⟩
  · exact .inl h
  · exact .inr ⟨b, off, h1, Nat.lt_of_lt_of_le h2 hb.size, fun i hi => by
      obtain ⟨n, g1, g2, g3⟩ := h3 i hi
      exact ⟨n, g1, g2, (hb.cell (p := ⟨b, off + i, none⟩) h2).trans g3⟩⟩
theorem who_ne {who : Int} (h0 : 0 ≤ who) (h1 : who ≤ 2) : who ≠ (who + 1).tmod 3 := by
  have : who = 0 ∨ who = 1 ∨ who = 2 := by omega
  rcases this with rfl | rfl | rfl <;> decide

set_option maxRecDepth 100000 in
set_option maxHeartbeats 8000000 in
theorem walkC_FnAtmSwap (hI : AtmDoC) (a : Option Addr) (len cap : Nat) (a' : Option Addr) (len' cap' : Nat) (w : World) (hc : len ≤ cap) (hm : cap ≤ 9223372036854775807) (h : Bytes w w.heap.size a len) (hc' : len' ≤ cap') (hm' : cap' ≤ 9223372036854775807) (h' : Bytes w w.heap.size a' len') :
    Calls Try.prog 8 #[.slice a len cap, .slice a' len' cap'] w fun e w' => e = .returned (.bool true) ∧ Below w.heap.size w w' := by
  by_cases hl : 1048576 < len
  · have hI1 : (1048576 : Int) < (len : Int) := by omega
    clear h h' hI
    go_enter Try.func8, Try.ntmps8
    go_wp2
    go_ret
    exact ⟨rfl, Below.refl _ _⟩
  have hI1 : ¬ (1048576 : Int) < (len : Int) := by omega
  by_cases hl' : 1048576 < len'
  · have hI2 : (1048576 : Int) < (len' : Int) := by omega
    clear h h' hI
    go_enter Try.func8, Try.ntmps8
    go_wp2
    go_ret
    exact ⟨rfl, Below.refl _ _⟩
  have hI2 : ¬ (1048576 : Int) < (len' : Int) := by omega
  have HBy := Hid.intro h
  have HBz := Hid.intro h'
  have HC := Hid.intro hI
  clear h h' hI
  go_enter Try.func8, Try.ntmps8
  go_wp2_with fail
  refine (drawAtmDo_any a len cap w hc hm HBy.out).mono ?_
  rintro e w1 ⟨b, c, ms, s, bw, ow, cw, bh, oh, ch, who, r, pd, cd, pl, cl, rfl, hM, xc, xm, x1, x7, hS, y1, y2, hR, z1, z2, hB1⟩
  have hY := HBz.out.belowB hB1
  obtain ⟨zs, zr, hZ⟩ : ∃ zs zr, atmZ ms s who r = (zs, zr) := ⟨_, _, rfl⟩
  have HZ := Hid.intro hZ
  clear hZ HBy HBz
  have HM1 := Hid.intro hM
  have HS1 := Hid.intro hS
  have HR1 := Hid.intro hR
  have HY1 := Hid.intro hY
  clear hM hS hR hY
  unfold stV reqV
  go_wp2_with fail
  refine (drawAtmDo_any a' len' cap' _ hc' hm' (HY1.out.belowB (below_two _ _ _))).mono ?_
  rintro e w2 ⟨b', c', ms', s', bw', ow', cw', bh', oh', ch', who', q, pe, ce, pk, ck, rfl, _, _, _, _, _, _, _, _, hR', _, _, hb2⟩
  have hg2 : Below w1.heap.size w1 w2 := Below.trans (below_two w1 _ _) (hb2.mono (by simp; omega))
  have hs2 := hb2.size
  simp only [World.size_alloc] at hs2
  have HM2 := Hid.intro (HM1.out.below hg2)
  have HS2 := Hid.intro (HS1.out.below hg2)
  have HR2 := Hid.intro (HR1.out.below hg2)
  have HY2 := Hid.intro (HY1.out.belowB hg2)
  have hB2 := hB1.trans (hg2.mono hB1.size)
  have bS : w2.heap[w1.heap.size]? = some (.cells #[.slice (some ⟨bw, ow, none⟩) s.words.length cw, .slice (some ⟨bh, oh, none⟩) s.holds.length ch] 28 (0, 0)) := (hb2.block _ (by simp; omega)).trans (two_at0 _ _ _)
  obtain ⟨S, eS⟩ : ∃ v, v = w1.heap.size := ⟨_, rfl⟩
  have bQ : w2.heap[w1.heap.size + 1]? = some (.cells #[.int .i64 r.id, .int .i64 r.kind, .int .i64 r.addr, .int .i64 r.many, .bool r.wrap, .slice pd r.data.length cd, .slice pl r.lanes.length cl] 30 (0, 0)) := (hb2.block _ (by simp)).trans (two_at1 _ _ _)
  obtain ⟨Q, eQ⟩ : ∃ v, v = w1.heap.size + 1 := ⟨_, rfl⟩
  rw [← eQ] at bQ ⊢
  rw [← eS] at bS ⊢
  have lS2 : S < w2.heap.size := by omega
  have lQ2 : Q < w2.heap.size := by omega
  have BS2 := Hid.intro bS
  have BQ2 := Hid.intro bQ
  clear HM1 HS1 HR1 HY1 hB1 bS eS bQ eQ hb2 hg2 hs2
  clear HY2
  have HN2 := Hid.intro hR'
  clear hR'
  have cS0 : w2.cell? ⟨S, 0, none⟩ = some (.slice (some ⟨bw, ow, none⟩) s.words.length cw) := heap_cell BS2.out 0
  have cS1 : w2.cell? ⟨S, 1, none⟩ = some (.slice (some ⟨bh, oh, none⟩) s.holds.length ch) := heap_cell BS2.out 1
  have cQ0 : w2.cell? ⟨Q, 0, none⟩ = some (.int .i64 r.id) := heap_cell BQ2.out 0
  have cQ1 : w2.cell? ⟨Q, 1, none⟩ = some (.int .i64 r.kind) := heap_cell BQ2.out 1
  have cQ2 : w2.cell? ⟨Q, 2, none⟩ = some (.int .i64 r.addr) := heap_cell BQ2.out 2
  have cQ3 : w2.cell? ⟨Q, 3, none⟩ = some (.int .i64 r.many) := heap_cell BQ2.out 3
  have cQ4 : w2.cell? ⟨Q, 4, none⟩ = some (.bool r.wrap) := heap_cell BQ2.out 4
  have cQ5 : w2.cell? ⟨Q, 5, none⟩ = some (.slice pd r.data.length cd) := heap_cell BQ2.out 5
  have cQ6 : w2.cell? ⟨Q, 6, none⟩ = some (.slice pl r.lanes.length cl) := heap_cell BQ2.out 6
  unfold stV reqV
  go_wp2_with fail
  refine (atmF_at HC.out HZ.out (HM2.out.below (below_two _ _ _)) xc xm (HS2.out.below (below_two _ _ _)) (HR2.out.below (below_two _ _ _))).mono ?_
  rintro e w3 ⟨qw, dw, qh, dh, qx, dx, rfl, hO, hb3⟩
  have hg3 : Below w2.heap.size w2 w3 := Below.trans (below_two w2 _ _) (hb3.mono (by simp; omega))
  have hs3 := hb3.size
  simp only [World.size_alloc] at hs3
  have BS3 := Hid.intro ((hg3.block S lS2).trans BS2.out)
  have BQ3 := Hid.intro ((hg3.block Q lQ2).trans BQ2.out)
  have HM3 := Hid.intro (HM2.out.below hg3)
  have HS3 := Hid.intro (HS2.out.below hg3)
  have HR3 := Hid.intro (HR2.out.below hg3)
  have HN3 := Hid.intro (HN2.out.below hg3)
  have hB3 := hB2.trans (hg3.mono hB2.size)
  have lS3 : S < w3.heap.size := by omega
  have lQ3 : Q < w3.heap.size := by omega
  have bSb : w3.heap[w2.heap.size]? = some (.cells #[.slice (some ⟨bw', ow', none⟩) s'.words.length cw', .slice (some ⟨bh', oh', none⟩) s'.holds.length ch'] 28 (0, 0)) := (hb3.block _ (by simp; omega)).trans (two_at0 _ _ _)
  obtain ⟨Sb, eSb⟩ : ∃ v, v = w2.heap.size := ⟨_, rfl⟩
  have bP : w3.heap[w2.heap.size + 1]? = some (.cells #[.int .i64 q.id, .int .i64 q.kind, .int .i64 q.addr, .int .i64 q.many, .bool q.wrap, .slice pe q.data.length ce, .slice pk q.lanes.length ck] 30 (0, 0)) := (hb3.block _ (by simp)).trans (two_at1 _ _ _)
  obtain ⟨P, eP⟩ : ∃ v, v = w2.heap.size + 1 := ⟨_, rfl⟩
  rw [← eP] at bP ⊢
  rw [← eSb] at bSb ⊢
  have lSb3 : Sb < w3.heap.size := by omega
  have lP3 : P < w3.heap.size := by omega
  have BSb3 := Hid.intro bSb
  have BP3 := Hid.intro bP
  clear BS2 lS2 BQ2 lQ2 HM2 HS2 HR2 HN2 hB2 bSb eSb bP eP hb3 hg3 hs3 cS0 cS1 cQ0 cQ1 cQ2 cQ3 cQ4 cQ5 cQ6
  clear BSb3 lSb3
  have HO3 := Hid.intro hO
  clear hO
  have cS0 : w3.cell? ⟨S, 0, none⟩ = some (.slice (some ⟨bw, ow, none⟩) s.words.length cw) := heap_cell BS3.out 0
  have cS1 : w3.cell? ⟨S, 1, none⟩ = some (.slice (some ⟨bh, oh, none⟩) s.holds.length ch) := heap_cell BS3.out 1
  have cQ0 : w3.cell? ⟨Q, 0, none⟩ = some (.int .i64 r.id) := heap_cell BQ3.out 0
  have cQ1 : w3.cell? ⟨Q, 1, none⟩ = some (.int .i64 r.kind) := heap_cell BQ3.out 1
  have cQ2 : w3.cell? ⟨Q, 2, none⟩ = some (.int .i64 r.addr) := heap_cell BQ3.out 2
  have cQ3 : w3.cell? ⟨Q, 3, none⟩ = some (.int .i64 r.many) := heap_cell BQ3.out 3
  have cQ4 : w3.cell? ⟨Q, 4, none⟩ = some (.bool r.wrap) := heap_cell BQ3.out 4
  have cQ5 : w3.cell? ⟨Q, 5, none⟩ = some (.slice pd r.data.length cd) := heap_cell BQ3.out 5
  have cQ6 : w3.cell? ⟨Q, 6, none⟩ = some (.slice pl r.lanes.length cl) := heap_cell BQ3.out 6
  unfold stV rspV
  go_wp2_with fail
  refine (atmF_at spec_AtmDo HZ.out (HM3.out.below (below_two _ _ _)) xc xm (HS3.out.below (below_two _ _ _)) (HR3.out.below (below_two _ _ _))).mono ?_
  rintro e w4 ⟨kw, mw, kh, mh, kx, mx, rfl, hO, hb4⟩
  have hg4 : Below w3.heap.size w3 w4 := Below.trans (below_two w3 _ _) (hb4.mono (by simp; omega))
  have hs4 := hb4.size
  simp only [World.size_alloc] at hs4
  have BS4 := Hid.intro ((hg4.block S lS3).trans BS3.out)
  have BQ4 := Hid.intro ((hg4.block Q lQ3).trans BQ3.out)
  have BP4 := Hid.intro ((hg4.block P lP3).trans BP3.out)
  have HM4 := Hid.intro (HM3.out.below hg4)
  have HS4 := Hid.intro (HS3.out.below hg4)
  have HR4 := Hid.intro (HR3.out.below hg4)
  have HN4 := Hid.intro (HN3.out.below hg4)
  have HO4 := Hid.intro (HO3.out.below hg4)
  have hB4 := hB3.trans (hg4.mono hB3.size)
  have lS4 : S < w4.heap.size := by omega
  have lQ4 : Q < w4.heap.size := by omega
  have lP4 : P < w4.heap.size := by omega
  have bX : w4.heap[w3.heap.size]? = some (.cells #[.slice qw zs.words.length dw, .slice qh zs.holds.length dh] 28 (0, 0)) := (hb4.block _ (by simp; omega)).trans (two_at0 _ _ _)
  obtain ⟨X, eX⟩ : ∃ v, v = w3.heap.size := ⟨_, rfl⟩
  have bA : w4.heap[w3.heap.size + 1]? = some (.cells #[.int .i64 zr.id, .int .i64 zr.code, .slice qx zr.data.length dx] 34 (0, 0)) := (hb4.block _ (by simp)).trans (two_at1 _ _ _)
  obtain ⟨A, eA⟩ : ∃ v, v = w3.heap.size + 1 := ⟨_, rfl⟩
  rw [← eA] at bA ⊢
  rw [← eX] at bX ⊢
  have lX4 : X < w4.heap.size := by omega
  have lA4 : A < w4.heap.size := by omega
  have BX4 := Hid.intro bX
  have BA4 := Hid.intro bA
  clear BS3 lS3 BQ3 lQ3 BP3 lP3 HM3 HS3 HR3 HN3 HO3 hB3 bX eX bA eA hb4 hg4 hs4 cS0 cS1 cQ0 cQ1 cQ2 cQ3 cQ4 cQ5 cQ6
  have HK4 := Hid.intro hO.rsp
  clear hO
  have cA0 : w4.cell? ⟨A, 0, none⟩ = some (.int .i64 zr.id) := heap_cell BA4.out 0
  have cA1 : w4.cell? ⟨A, 1, none⟩ = some (.int .i64 zr.code) := heap_cell BA4.out 1
  have cA2 : w4.cell? ⟨A, 2, none⟩ = some (.slice qx zr.data.length dx) := heap_cell BA4.out 2
  unfold stV rspV
  go_wp2_with fail
  refine (crRsp_same zr qx kx dx mx _ (HO4.out.rsp.below (below_two _ _ _)) (HK4.out.below (below_two _ _ _))).mono ?_
  rintro e w5 ⟨rfl, hb5⟩
  have hg5 : Below w4.heap.size w4 w5 := Below.trans (below_two w4 _ _) (hb5.mono (by simp; omega))
  have hs5 := hb5.size
  simp only [World.size_alloc] at hs5
  have BS5 := Hid.intro ((hg5.block S lS4).trans BS4.out)
  have BQ5 := Hid.intro ((hg5.block Q lQ4).trans BQ4.out)
  have BP5 := Hid.intro ((hg5.block P lP4).trans BP4.out)
  have BX5 := Hid.intro ((hg5.block X lX4).trans BX4.out)
  have BA5 := Hid.intro ((hg5.block A lA4).trans BA4.out)
  have HM5 := Hid.intro (HM4.out.below hg5)
  have HS5 := Hid.intro (HS4.out.below hg5)
  have HR5 := Hid.intro (HR4.out.below hg5)
  have HN5 := Hid.intro (HN4.out.below hg5)
  have HO5 := Hid.intro (HO4.out.below hg5)
  have HK5 := Hid.intro (HK4.out.below hg5)
  have hB5 := hB4.trans (hg5.mono hB4.size)
  have lS5 : S < w5.heap.size := by omega
  have lQ5 : Q < w5.heap.size := by omega
  have lP5 : P < w5.heap.size := by omega
  have lX5 : X < w5.heap.size := by omega
  have lA5 : A < w5.heap.size := by omega
  have bWx : w5.heap[w4.heap.size]? = some (.cells #[.slice kw zs.words.length mw, .slice kh zs.holds.length mh] 28 (0, 0)) := (hb5.block _ (by simp; omega)).trans (two_at0 _ _ _)
  obtain ⟨Wx, eWx⟩ : ∃ v, v = w4.heap.size := ⟨_, rfl⟩
  have bV : w5.heap[w4.heap.size + 1]? = some (.cells #[.int .i64 zr.id, .int .i64 zr.code, .slice kx zr.data.length mx] 34 (0, 0)) := (hb5.block _ (by simp)).trans (two_at1 _ _ _)
  obtain ⟨V, eV⟩ : ∃ v, v = w4.heap.size + 1 := ⟨_, rfl⟩
  rw [← eV] at bV ⊢
  rw [← eWx] at bWx ⊢
  have lWx5 : Wx < w5.heap.size := by omega
  have lV5 : V < w5.heap.size := by omega
  have BWx5 := Hid.intro bWx
  have BV5 := Hid.intro bV
  clear BS4 lS4 BQ4 lQ4 BP4 lP4 BX4 lX4 BA4 lA4 HM4 HS4 HR4 HN4 HO4 HK4 hB4 bWx eWx bV eV hb5 hg5 hs5 cA0 cA1 cA2
  clear BWx5 lWx5
  clear BV5 lV5
  clear HK5
  have cA0 : w5.cell? ⟨A, 0, none⟩ = some (.int .i64 zr.id) := heap_cell BA5.out 0
  have cA1 : w5.cell? ⟨A, 1, none⟩ = some (.int .i64 zr.code) := heap_cell BA5.out 1
  have cA2 : w5.cell? ⟨A, 2, none⟩ = some (.slice qx zr.data.length dx) := heap_cell BA5.out 2
  have cP0 : w5.cell? ⟨P, 0, none⟩ = some (.int .i64 q.id) := heap_cell BP5.out 0
  have cP1 : w5.cell? ⟨P, 1, none⟩ = some (.int .i64 q.kind) := heap_cell BP5.out 1
  have cP2 : w5.cell? ⟨P, 2, none⟩ = some (.int .i64 q.addr) := heap_cell BP5.out 2
  have cP3 : w5.cell? ⟨P, 3, none⟩ = some (.int .i64 q.many) := heap_cell BP5.out 3
  have cP4 : w5.cell? ⟨P, 4, none⟩ = some (.bool q.wrap) := heap_cell BP5.out 4
  have cP5 : w5.cell? ⟨P, 5, none⟩ = some (.slice pe q.data.length ce) := heap_cell BP5.out 5
  have cP6 : w5.cell? ⟨P, 6, none⟩ = some (.slice pk q.lanes.length ck) := heap_cell BP5.out 6
  by_cases hz : zr.code = 0
  · have n0 : (zr.code == 0) = true := by simpa using hz
    go_wp2_with (go_at_call 26; refine (crOk_any _).mono ?_; rintro e w' ⟨rfl, rfl⟩)
    go_ret
    exact ⟨rfl, hB5⟩
  have n0 : (zr.code == 0) = false := by simpa using hz
  obtain ⟨hok, hdo⟩ := atmZ_code HZ.out hz
  have Hok := Hid.intro hok
  have Hdo := Hid.intro hdo
  clear hok hdo hz
  skip
  go_wp2_with fail
  refine (spec_ReqOk q pe pk ce ck w5 HN5.out).mono ?_
  rintro e w6 ⟨rfl, hb6⟩
  have hg6 := hb6
  have hs6 := hb6.size
  have BS6 := Hid.intro ((hg6.block S lS5).trans BS5.out)
  have BQ6 := Hid.intro ((hg6.block Q lQ5).trans BQ5.out)
  have BP6 := Hid.intro ((hg6.block P lP5).trans BP5.out)
  have BX6 := Hid.intro ((hg6.block X lX5).trans BX5.out)
  have BA6 := Hid.intro ((hg6.block A lA5).trans BA5.out)
  have HM6 := Hid.intro (HM5.out.below hg6)
  have HS6 := Hid.intro (HS5.out.below hg6)
  have HR6 := Hid.intro (HR5.out.below hg6)
  have HN6 := Hid.intro (HN5.out.below hg6)
  have HO6 := Hid.intro (HO5.out.below hg6)
  have hB6 := hB5.trans (hg6.mono hB5.size)
  have lS6 : S < w6.heap.size := by omega
  have lQ6 : Q < w6.heap.size := by omega
  have lP6 : P < w6.heap.size := by omega
  have lX6 : X < w6.heap.size := by omega
  have lA6 : A < w6.heap.size := by omega
  clear BS5 lS5 BQ5 lQ5 BP5 lP5 BX5 lX5 BA5 lA5 HM5 HS5 HR5 HN5 HO5 hB5 hb6 hg6 hs6 cA0 cA1 cA2 cP0 cP1 cP2 cP3 cP4 cP5 cP6
  cases kq : reqOkB q
  · go_wp2_with (go_at_call 26; refine (crOk_any _).mono ?_; rintro e w' ⟨rfl, rfl⟩)
    go_ret
    exact ⟨rfl, hB6⟩
  have cQ0 : w6.cell? ⟨Q, 0, none⟩ = some (.int .i64 r.id) := heap_cell BQ6.out 0
  have cQ1 : w6.cell? ⟨Q, 1, none⟩ = some (.int .i64 r.kind) := heap_cell BQ6.out 1
  have cQ2 : w6.cell? ⟨Q, 2, none⟩ = some (.int .i64 r.addr) := heap_cell BQ6.out 2
  have cQ3 : w6.cell? ⟨Q, 3, none⟩ = some (.int .i64 r.many) := heap_cell BQ6.out 3
  have cQ4 : w6.cell? ⟨Q, 4, none⟩ = some (.bool r.wrap) := heap_cell BQ6.out 4
  have cQ5 : w6.cell? ⟨Q, 5, none⟩ = some (.slice pd r.data.length cd) := heap_cell BQ6.out 5
  have cQ6 : w6.cell? ⟨Q, 6, none⟩ = some (.slice pl r.lanes.length cl) := heap_cell BQ6.out 6
  have hA1 := impl_AdrBurst r.addr r.many r.wrap w6
  obtain ⟨one, eone⟩ : ∃ l, l = burst r.addr r.many r.wrap := ⟨_, rfl⟩
  rw [← eone] at hA1
  have HA1 := Hid.intro hA1
  have Eone := Hid.intro eone
  clear hA1 eone
  go_wp2_with fail
  refine HA1.out.mono ?_
  rintro e w7 ⟨p1, c1, rfl, hi7, _, hc1, hm1, hb7, _⟩
  clear HA1
  have hg7 := hb7
  have hs7 := hb7.size
  have BS7 := Hid.intro ((hg7.block S lS6).trans BS6.out)
  have BQ7 := Hid.intro ((hg7.block Q lQ6).trans BQ6.out)
  have BP7 := Hid.intro ((hg7.block P lP6).trans BP6.out)
  have BX7 := Hid.intro ((hg7.block X lX6).trans BX6.out)
  have BA7 := Hid.intro ((hg7.block A lA6).trans BA6.out)
  have HM7 := Hid.intro (HM6.out.below hg7)
  have HS7 := Hid.intro (HS6.out.below hg7)
  have HR7 := Hid.intro (HR6.out.below hg7)
  have HN7 := Hid.intro (HN6.out.below hg7)
  have HO7 := Hid.intro (HO6.out.below hg7)
  have hB7 := hB6.trans (hg7.mono hB6.size)
  have lS7 : S < w7.heap.size := by omega
  have lQ7 : Q < w7.heap.size := by omega
  have lP7 : P < w7.heap.size := by omega
  have lX7 : X < w7.heap.size := by omega
  have lA7 : A < w7.heap.size := by omega
  clear BS6 lS6 BQ6 lQ6 BP6 lP6 BX6 lX6 BA6 lA6 HM6 HS6 HR6 HN6 HO6 hB6 hb7 hg7 hs7 cQ0 cQ1 cQ2 cQ3 cQ4 cQ5 cQ6
  have HI7 := Hid.intro hi7
  clear hi7
  have cP0 : w7.cell? ⟨P, 0, none⟩ = some (.int .i64 q.id) := heap_cell BP7.out 0
  have cP1 : w7.cell? ⟨P, 1, none⟩ = some (.int .i64 q.kind) := heap_cell BP7.out 1
  have cP2 : w7.cell? ⟨P, 2, none⟩ = some (.int .i64 q.addr) := heap_cell BP7.out 2
  have cP3 : w7.cell? ⟨P, 3, none⟩ = some (.int .i64 q.many) := heap_cell BP7.out 3
  have cP4 : w7.cell? ⟨P, 4, none⟩ = some (.bool q.wrap) := heap_cell BP7.out 4
  have cP5 : w7.cell? ⟨P, 5, none⟩ = some (.slice pe q.data.length ce) := heap_cell BP7.out 5
  have cP6 : w7.cell? ⟨P, 6, none⟩ = some (.slice pk q.lanes.length ck) := heap_cell BP7.out 6
  have hA2 := impl_AdrBurst q.addr q.many q.wrap w7
  obtain ⟨two, etwo⟩ : ∃ l, l = burst q.addr q.many q.wrap := ⟨_, rfl⟩
  rw [← etwo] at hA2
  have HA2 := Hid.intro hA2
  have Etwo := Hid.intro etwo
  clear hA2 etwo
  go_wp2_with fail
  refine HA2.out.mono ?_
  rintro e w8 ⟨p2, c2, rfl, hi8, _, hc2, hm2, hb8, _⟩
  clear HA2
  have hg8 := hb8
  have hs8 := hb8.size
  have BS8 := Hid.intro ((hg8.block S lS7).trans BS7.out)
  have BQ8 := Hid.intro ((hg8.block Q lQ7).trans BQ7.out)
  have BP8 := Hid.intro ((hg8.block P lP7).trans BP7.out)
  have BX8 := Hid.intro ((hg8.block X lX7).trans BX7.out)
  have BA8 := Hid.intro ((hg8.block A lA7).trans BA7.out)
  have HM8 := Hid.intro (HM7.out.below hg8)
  have HS8 := Hid.intro (HS7.out.below hg8)
  have HR8 := Hid.intro (HR7.out.below hg8)
  have HN8 := Hid.intro (HN7.out.below hg8)
  have HO8 := Hid.intro (HO7.out.below hg8)
  have HI8 := Hid.intro (HI7.out.below hg8)
  have hB8 := hB7.trans (hg8.mono hB7.size)
  have lS8 : S < w8.heap.size := by omega
  have lQ8 : Q < w8.heap.size := by omega
  have lP8 : P < w8.heap.size := by omega
  have lX8 : X < w8.heap.size := by omega
  have lA8 : A < w8.heap.size := by omega
  clear BS7 lS7 BQ7 lQ7 BP7 lP7 BX7 lX7 BA7 lA7 HM7 HS7 HR7 HN7 HO7 HI7 hB7 hb8 hg8 hs8 cP0 cP1 cP2 cP3 cP4 cP5 cP6
  have HJ8 := Hid.intro hi8
  clear hi8
  have hl4 : one.length ≤ 4 := by rw [Eone.out]; exact burst_le _ _ _
  go_wp2
  go_loopw [19] (fun i wr => ∃ k : Nat, k ≤ one.length ∧ i = .int .i64 k ∧ wr = w8 ∧ Hid (∀ x ∈ one.take k, x ∉ two)) (fun i _ => one.length - (intOf i).toNat)
  case atStart => exact ⟨0, Nat.zero_le _, rfl, rfl, by intro x hx; simp at hx⟩
  case round =>
    obtain ⟨k, hkl, rfl, hwr, HD⟩ := hrel
    have hwr2 := hwr.symm
    clear hwr
    subst hwr2
    by_cases hlt : k < one.length
    · rcases HI8.out with hx | ⟨b1, f1, rfl, g1, hcs⟩
      · rw [hx] at hlt; simp at hlt
      have u1 := hcs k hlt
      have hk0 : (0 : Int) ≤ (k : Int) := by omega
      have hk1 : (k : Int) < (one.length : Int) := by omega
      obtain ⟨x, ex⟩ : ∃ x, x = one[k] := ⟨_, rfl⟩
      rw [← ex] at u1
      have HCr := crIn_any p2 c2 two x w8 HJ8.out hc2 hm2
      clear hcs
      by_cases hin : x ∈ two
      · rw [decide_eq_true hin] at HCr
        have HCr := Hid.intro HCr
        clear hin ex
        go_wp2_with (first | (go_at_call 32; refine HCr.out.mono ?_; rintro e w9 ⟨rfl, rfl⟩) | (go_at_call 26; refine (crOk_any _).mono ?_; rintro e w9 ⟨rfl, rfl⟩))
        go_ret
        exact ⟨rfl, hB8⟩
      · rw [decide_eq_false hin] at HCr
        have HCr := Hid.intro HCr
        have HD2 : Hid (∀ y ∈ one.take (k + 1), y ∉ two) := by
          intro y hy
          rw [List.take_succ_eq_append_getElem hlt] at hy
          rcases List.mem_append.1 hy with hy | hy
          · exact HD.out y hy
          · simp at hy; rw [hy, ← ex]; exact hin
        clear hin ex
        go_wp2_with (go_at_call 32; refine HCr.out.mono ?_; rintro e w9 ⟨rfl, rfl⟩)
        go_roundw
        case rel => exact ⟨k + 1, by omega, by go_num, by first | rfl | simp, HD2⟩
        case measure => simp [intOf]; omega
    · have hk3 : ¬ (k : Int) < (one.length : Int) := by omega
      have hke : k = one.length := by omega
      have hd : ∀ x ∈ burst r.addr r.many r.wrap, x ∉ burst q.addr q.many q.wrap := by
        intro x hx
        rw [← Eone.out] at hx
        rw [← Etwo.out]
        exact HD.out x (by rw [hke, List.take_length]; exact hx)
      obtain ⟨a1, a2, a3, a4⟩ := atmOk_and Hok.out
      obtain ⟨p1', p2', p3, p4, ⟨p5, p6⟩, p7⟩ := atmOk_parts Hok.out
      have hw := who_next p5 p6
      have hne := who_ne p5 p6
      have v2 : wrap64 (who + 1) = who + 1 := by unfold wrap64; omega
      have v4 : IntKind.i64.wrap (who + 1) = who + 1 := wrapI (by omega) (by omega)
      obtain ⟨oth, eoth⟩ : ∃ v, v = (who + 1).tmod 3 := ⟨_, rfl⟩
      rw [← eoth] at hw hne
      have hok2 : atmOkB ms s oth q = true := by simp only [atmOkB, Bool.and_eq_true]; exact ⟨a1, a2, hw, kq⟩
      have hsw := atm_swap Hok.out hok2 hne hd
      obtain ⟨us, ur, hU⟩ : ∃ us ur, atmDo ms s oth q = (us, ur) := ⟨_, _, rfl⟩
      obtain ⟨ys, yr, hYs⟩ : ∃ ys yr, atmDo ms zs oth q = (ys, yr) := ⟨_, _, rfl⟩
      obtain ⟨vs, vr, hVs⟩ : ∃ vs vr, atmDo ms us who r = (vs, vr) := ⟨_, _, rfl⟩
      have hn1 := atmOk_next (who' := oth) (q := q) Hok.out hw kq
      have hn2 := atmOk_next (who' := who) (q := r) hok2 a3 a4
      rw [Hdo.out] at hsw hn1
      rw [hU] at hsw hn2
      simp only at hsw hn1 hn2
      rw [hYs, hVs] at hsw
      simp only at hsw
      obtain ⟨s1, s2, s3⟩ := hsw
      have HZ2 := Hid.intro ((atmZ_may hn1).trans hYs)
      rw [← s2] at hU
      rw [← s1, s3] at hVs
      have HZ3 := Hid.intro ((atmZ_may hok2).trans hU)
      have HZ4 := Hid.intro ((atmZ_may hn2).trans hVs)
      have Hoth := Hid.intro eoth
      clear s1 s2 s3 hd a1 a2 a3 a4 p1' p2' p3 p4 p5 p6 p7 hw hne eoth hok2 hU hYs hVs hn1 hn2 Hok Hdo HZ hke HD Eone Etwo
      have cX0 : w8.cell? ⟨X, 0, none⟩ = some (.slice qw zs.words.length dw) := heap_cell BX8.out 0
      have cX1 : w8.cell? ⟨X, 1, none⟩ = some (.slice qh zs.holds.length dh) := heap_cell BX8.out 1
      have cP0 : w8.cell? ⟨P, 0, none⟩ = some (.int .i64 q.id) := heap_cell BP8.out 0
      have cP1 : w8.cell? ⟨P, 1, none⟩ = some (.int .i64 q.kind) := heap_cell BP8.out 1
      have cP2 : w8.cell? ⟨P, 2, none⟩ = some (.int .i64 q.addr) := heap_cell BP8.out 2
      have cP3 : w8.cell? ⟨P, 3, none⟩ = some (.int .i64 q.many) := heap_cell BP8.out 3
      have cP4 : w8.cell? ⟨P, 4, none⟩ = some (.bool q.wrap) := heap_cell BP8.out 4
      have cP5 : w8.cell? ⟨P, 5, none⟩ = some (.slice pe q.data.length ce) := heap_cell BP8.out 5
      have cP6 : w8.cell? ⟨P, 6, none⟩ = some (.slice pk q.lanes.length ck) := heap_cell BP8.out 6
      go_wp2_with fail
      first | rw [v2] | rw [v4] | skip
      rw [← Hoth.out]
      refine (atmF_at HC.out HZ2.out (HM8.out) xc xm (HO8.out.st) (HN8.out)).mono ?_
      rintro e w9 ⟨ew, fw, eh, fh, ex, fx, rfl, hO, hb9⟩
      have hg9 := hb9
      have hs9 := hb9.size
      have BS9 := Hid.intro ((hg9.block S lS8).trans BS8.out)
      have BQ9 := Hid.intro ((hg9.block Q lQ8).trans BQ8.out)
      have BP9 := Hid.intro ((hg9.block P lP8).trans BP8.out)
      have BX9 := Hid.intro ((hg9.block X lX8).trans BX8.out)
      have BA9 := Hid.intro ((hg9.block A lA8).trans BA8.out)
      have HM9 := Hid.intro (HM8.out.below hg9)
      have HS9 := Hid.intro (HS8.out.below hg9)
      have HR9 := Hid.intro (HR8.out.below hg9)
      have HN9 := Hid.intro (HN8.out.below hg9)
      have HO9 := Hid.intro (HO8.out.below hg9)
      have HI9 := Hid.intro (HI8.out.below hg9)
      have HJ9 := Hid.intro (HJ8.out.below hg9)
      have hB9 := hB8.trans (hg9.mono hB8.size)
      have lS9 : S < w9.heap.size := by omega
      have lQ9 : Q < w9.heap.size := by omega
      have lP9 : P < w9.heap.size := by omega
      have lX9 : X < w9.heap.size := by omega
      have lA9 : A < w9.heap.size := by omega
      clear BS8 lS8 BQ8 lQ8 BP8 lP8 BX8 lX8 BA8 lA8 HM8 HS8 HR8 HN8 HO8 HI8 HJ8 hB8 hb9 hg9 hs9 cX0 cX1 cP0 cP1 cP2 cP3 cP4 cP5 cP6
      have HYo9 := Hid.intro hO
      clear hO HZ2
      have cS0 : w9.cell? ⟨S, 0, none⟩ = some (.slice (some ⟨bw, ow, none⟩) s.words.length cw) := heap_cell BS9.out 0
      have cS1 : w9.cell? ⟨S, 1, none⟩ = some (.slice (some ⟨bh, oh, none⟩) s.holds.length ch) := heap_cell BS9.out 1
      have cP0 : w9.cell? ⟨P, 0, none⟩ = some (.int .i64 q.id) := heap_cell BP9.out 0
      have cP1 : w9.cell? ⟨P, 1, none⟩ = some (.int .i64 q.kind) := heap_cell BP9.out 1
      have cP2 : w9.cell? ⟨P, 2, none⟩ = some (.int .i64 q.addr) := heap_cell BP9.out 2
      have cP3 : w9.cell? ⟨P, 3, none⟩ = some (.int .i64 q.many) := heap_cell BP9.out 3
      have cP4 : w9.cell? ⟨P, 4, none⟩ = some (.bool q.wrap) := heap_cell BP9.out 4
      have cP5 : w9.cell? ⟨P, 5, none⟩ = some (.slice pe q.data.length ce) := heap_cell BP9.out 5
      have cP6 : w9.cell? ⟨P, 6, none⟩ = some (.slice pk q.lanes.length ck) := heap_cell BP9.out 6
      unfold stV rspV
      go_wp2_with fail
      first | rw [v2] | rw [v4] | skip
      first | rw [← Hoth.out] | skip
      refine (atmF_at HC.out HZ3.out (HM9.out.below (below_two _ _ _)) xc xm (HS9.out.below (below_two _ _ _)) (HN9.out.below (below_two _ _ _))).mono ?_
      rintro e w10 ⟨gw, iw, gh, ih, gx, ix, rfl, hO, hb10⟩
      have hg10 : Below w9.heap.size w9 w10 := Below.trans (below_two w9 _ _) (hb10.mono (by simp; omega))
      have hs10 := hb10.size
      simp only [World.size_alloc] at hs10
      have BS10 := Hid.intro ((hg10.block S lS9).trans BS9.out)
      have BQ10 := Hid.intro ((hg10.block Q lQ9).trans BQ9.out)
      have BP10 := Hid.intro ((hg10.block P lP9).trans BP9.out)
      have BX10 := Hid.intro ((hg10.block X lX9).trans BX9.out)
      have BA10 := Hid.intro ((hg10.block A lA9).trans BA9.out)
      have HM10 := Hid.intro (HM9.out.below hg10)
      have HS10 := Hid.intro (HS9.out.below hg10)
      have HR10 := Hid.intro (HR9.out.below hg10)
      have HN10 := Hid.intro (HN9.out.below hg10)
      have HO10 := Hid.intro (HO9.out.below hg10)
      have HI10 := Hid.intro (HI9.out.below hg10)
      have HJ10 := Hid.intro (HJ9.out.below hg10)
      have HYo10 := Hid.intro (HYo9.out.below hg10)
      have hB10 := hB9.trans (hg10.mono hB9.size)
      have lS10 : S < w10.heap.size := by omega
      have lQ10 : Q < w10.heap.size := by omega
      have lP10 : P < w10.heap.size := by omega
      have lX10 : X < w10.heap.size := by omega
      have lA10 : A < w10.heap.size := by omega
      have bYb : w10.heap[w9.heap.size]? = some (.cells #[.slice ew ys.words.length fw, .slice eh ys.holds.length fh] 28 (0, 0)) := (hb10.block _ (by simp; omega)).trans (two_at0 _ _ _)
      obtain ⟨Yb, eYb⟩ : ∃ v, v = w9.heap.size := ⟨_, rfl⟩
      have bBb : w10.heap[w9.heap.size + 1]? = some (.cells #[.int .i64 yr.id, .int .i64 yr.code, .slice ex yr.data.length fx] 34 (0, 0)) := (hb10.block _ (by simp)).trans (two_at1 _ _ _)
      obtain ⟨Bb, eBb⟩ : ∃ v, v = w9.heap.size + 1 := ⟨_, rfl⟩
      rw [← eBb] at bBb ⊢
      rw [← eYb] at bYb ⊢
      have lYb10 : Yb < w10.heap.size := by omega
      have lBb10 : Bb < w10.heap.size := by omega
      have BYb10 := Hid.intro bYb
      have BBb10 := Hid.intro bBb
      clear BS9 lS9 BQ9 lQ9 BP9 lP9 BX9 lX9 BA9 lA9 HM9 HS9 HR9 HN9 HO9 HI9 HJ9 HYo9 hB9 bYb eYb bBb eBb hb10 hg10 hs10 cS0 cS1 cP0 cP1 cP2 cP3 cP4 cP5 cP6
      have HUo10 := Hid.intro hO
      clear hO HZ3
      have cQ0 : w10.cell? ⟨Q, 0, none⟩ = some (.int .i64 r.id) := heap_cell BQ10.out 0
      have cQ1 : w10.cell? ⟨Q, 1, none⟩ = some (.int .i64 r.kind) := heap_cell BQ10.out 1
      have cQ2 : w10.cell? ⟨Q, 2, none⟩ = some (.int .i64 r.addr) := heap_cell BQ10.out 2
      have cQ3 : w10.cell? ⟨Q, 3, none⟩ = some (.int .i64 r.many) := heap_cell BQ10.out 3
      have cQ4 : w10.cell? ⟨Q, 4, none⟩ = some (.bool r.wrap) := heap_cell BQ10.out 4
      have cQ5 : w10.cell? ⟨Q, 5, none⟩ = some (.slice pd r.data.length cd) := heap_cell BQ10.out 5
      have cQ6 : w10.cell? ⟨Q, 6, none⟩ = some (.slice pl r.lanes.length cl) := heap_cell BQ10.out 6
      unfold stV rspV
      go_wp2_with fail
      refine (atmF_at HC.out HZ4.out (HM10.out.below (below_two _ _ _)) xc xm (HUo10.out.st.below (below_two _ _ _)) (HR10.out.below (below_two _ _ _))).mono ?_
      rintro e w11 ⟨jw, tw, jh, th, jx, tx, rfl, hO, hb11⟩
      have hg11 : Below w10.heap.size w10 w11 := Below.trans (below_two w10 _ _) (hb11.mono (by simp; omega))
      have hs11 := hb11.size
      simp only [World.size_alloc] at hs11
      have BS11 := Hid.intro ((hg11.block S lS10).trans BS10.out)
      have BQ11 := Hid.intro ((hg11.block Q lQ10).trans BQ10.out)
      have BP11 := Hid.intro ((hg11.block P lP10).trans BP10.out)
      have BX11 := Hid.intro ((hg11.block X lX10).trans BX10.out)
      have BA11 := Hid.intro ((hg11.block A lA10).trans BA10.out)
      have BYb11 := Hid.intro ((hg11.block Yb lYb10).trans BYb10.out)
      have BBb11 := Hid.intro ((hg11.block Bb lBb10).trans BBb10.out)
      have HM11 := Hid.intro (HM10.out.below hg11)
      have HS11 := Hid.intro (HS10.out.below hg11)
      have HR11 := Hid.intro (HR10.out.below hg11)
      have HN11 := Hid.intro (HN10.out.below hg11)
      have HO11 := Hid.intro (HO10.out.below hg11)
      have HI11 := Hid.intro (HI10.out.below hg11)
      have HJ11 := Hid.intro (HJ10.out.below hg11)
      have HYo11 := Hid.intro (HYo10.out.below hg11)
      have HUo11 := Hid.intro (HUo10.out.below hg11)
      have hB11 := hB10.trans (hg11.mono hB10.size)
      have lS11 : S < w11.heap.size := by omega
      have lQ11 : Q < w11.heap.size := by omega
      have lP11 : P < w11.heap.size := by omega
      have lX11 : X < w11.heap.size := by omega
      have lA11 : A < w11.heap.size := by omega
      have lYb11 : Yb < w11.heap.size := by omega
      have lBb11 : Bb < w11.heap.size := by omega
      have bUb : w11.heap[w10.heap.size]? = some (.cells #[.slice gw us.words.length iw, .slice gh us.holds.length ih] 28 (0, 0)) := (hb11.block _ (by simp; omega)).trans (two_at0 _ _ _)
      obtain ⟨Ub, eUb⟩ : ∃ v, v = w10.heap.size := ⟨_, rfl⟩
      have bDb : w11.heap[w10.heap.size + 1]? = some (.cells #[.int .i64 yr.id, .int .i64 yr.code, .slice gx yr.data.length ix] 34 (0, 0)) := (hb11.block _ (by simp)).trans (two_at1 _ _ _)
      obtain ⟨Db, eDb⟩ : ∃ v, v = w10.heap.size + 1 := ⟨_, rfl⟩
      rw [← eDb] at bDb ⊢
      rw [← eUb] at bUb ⊢
      have lUb11 : Ub < w11.heap.size := by omega
      have lDb11 : Db < w11.heap.size := by omega
      have BUb11 := Hid.intro bUb
      have BDb11 := Hid.intro bDb
      clear BS10 lS10 BQ10 lQ10 BP10 lP10 BX10 lX10 BA10 lA10 BYb10 lYb10 BBb10 lBb10 HM10 HS10 HR10 HN10 HO10 HI10 HJ10 HYo10 HUo10 hB10 bUb eUb bDb eDb hb11 hg11 hs11 cQ0 cQ1 cQ2 cQ3 cQ4 cQ5 cQ6
      have HVo11 := Hid.intro hO
      clear hO HZ4
      have cYb0 : w11.cell? ⟨Yb, 0, none⟩ = some (.slice ew ys.words.length fw) := heap_cell BYb11.out 0
      have cYb1 : w11.cell? ⟨Yb, 1, none⟩ = some (.slice eh ys.holds.length fh) := heap_cell BYb11.out 1
      unfold stV rspV
      go_wp2_with fail
      refine (crAtm_same ys ew jw eh jh fw tw fh th _ (HYo11.out.st.below (below_two _ _ _)) (HVo11.out.st.below (below_two _ _ _))).mono ?_
      rintro e w12 ⟨rfl, hb12⟩
      have hg12 : Below w11.heap.size w11 w12 := Below.trans (below_two w11 _ _) (hb12.mono (by simp; omega))
      have hs12 := hb12.size
      simp only [World.size_alloc] at hs12
      have BS12 := Hid.intro ((hg12.block S lS11).trans BS11.out)
      have BQ12 := Hid.intro ((hg12.block Q lQ11).trans BQ11.out)
      have BP12 := Hid.intro ((hg12.block P lP11).trans BP11.out)
      have BX12 := Hid.intro ((hg12.block X lX11).trans BX11.out)
      have BA12 := Hid.intro ((hg12.block A lA11).trans BA11.out)
      have BYb12 := Hid.intro ((hg12.block Yb lYb11).trans BYb11.out)
      have BBb12 := Hid.intro ((hg12.block Bb lBb11).trans BBb11.out)
      have BUb12 := Hid.intro ((hg12.block Ub lUb11).trans BUb11.out)
      have BDb12 := Hid.intro ((hg12.block Db lDb11).trans BDb11.out)
      have HM12 := Hid.intro (HM11.out.below hg12)
      have HS12 := Hid.intro (HS11.out.below hg12)
      have HR12 := Hid.intro (HR11.out.below hg12)
      have HN12 := Hid.intro (HN11.out.below hg12)
      have HO12 := Hid.intro (HO11.out.below hg12)
      have HI12 := Hid.intro (HI11.out.below hg12)
      have HJ12 := Hid.intro (HJ11.out.below hg12)
      have HYo12 := Hid.intro (HYo11.out.below hg12)
      have HUo12 := Hid.intro (HUo11.out.below hg12)
      have HVo12 := Hid.intro (HVo11.out.below hg12)
      have hB12 := hB11.trans (hg12.mono hB11.size)
      have lS12 : S < w12.heap.size := by omega
      have lQ12 : Q < w12.heap.size := by omega
      have lP12 : P < w12.heap.size := by omega
      have lX12 : X < w12.heap.size := by omega
      have lA12 : A < w12.heap.size := by omega
      have lYb12 : Yb < w12.heap.size := by omega
      have lBb12 : Bb < w12.heap.size := by omega
      have lUb12 : Ub < w12.heap.size := by omega
      have lDb12 : Db < w12.heap.size := by omega
      have bVb : w12.heap[w11.heap.size]? = some (.cells #[.slice jw ys.words.length tw, .slice jh ys.holds.length th] 28 (0, 0)) := (hb12.block _ (by simp; omega)).trans (two_at0 _ _ _)
      obtain ⟨Vb, eVb⟩ : ∃ v, v = w11.heap.size := ⟨_, rfl⟩
      have bCb : w12.heap[w11.heap.size + 1]? = some (.cells #[.int .i64 zr.id, .int .i64 zr.code, .slice jx zr.data.length tx] 34 (0, 0)) := (hb12.block _ (by simp)).trans (two_at1 _ _ _)
      obtain ⟨Cb, eCb⟩ : ∃ v, v = w11.heap.size + 1 := ⟨_, rfl⟩
      rw [← eCb] at bCb ⊢
      rw [← eVb] at bVb ⊢
      have lVb12 : Vb < w12.heap.size := by omega
      have lCb12 : Cb < w12.heap.size := by omega
      have BVb12 := Hid.intro bVb
      have BCb12 := Hid.intro bCb
      clear BS11 lS11 BQ11 lQ11 BP11 lP11 BX11 lX11 BA11 lA11 BYb11 lYb11 BBb11 lBb11 BUb11 lUb11 BDb11 lDb11 HM11 HS11 HR11 HN11 HO11 HI11 HJ11 HYo11 HUo11 HVo11 hB11 bVb eVb bCb eCb hb12 hg12 hs12 cYb0 cYb1
      have cA0 : w12.cell? ⟨A, 0, none⟩ = some (.int .i64 zr.id) := heap_cell BA12.out 0
      have cA1 : w12.cell? ⟨A, 1, none⟩ = some (.int .i64 zr.code) := heap_cell BA12.out 1
      have cA2 : w12.cell? ⟨A, 2, none⟩ = some (.slice qx zr.data.length dx) := heap_cell BA12.out 2
      have cCb0 : w12.cell? ⟨Cb, 0, none⟩ = some (.int .i64 zr.id) := heap_cell BCb12.out 0
      have cCb1 : w12.cell? ⟨Cb, 1, none⟩ = some (.int .i64 zr.code) := heap_cell BCb12.out 1
      have cCb2 : w12.cell? ⟨Cb, 2, none⟩ = some (.slice jx zr.data.length tx) := heap_cell BCb12.out 2
      go_wp2_with fail
      refine (crRsp_same zr qx jx dx tx w12 HO12.out.rsp HVo12.out.rsp).mono ?_
      rintro e w13 ⟨rfl, hb13⟩
      have hg13 := hb13
      have hs13 := hb13.size
      have BS13 := Hid.intro ((hg13.block S lS12).trans BS12.out)
      have BQ13 := Hid.intro ((hg13.block Q lQ12).trans BQ12.out)
      have BP13 := Hid.intro ((hg13.block P lP12).trans BP12.out)
      have BX13 := Hid.intro ((hg13.block X lX12).trans BX12.out)
      have BA13 := Hid.intro ((hg13.block A lA12).trans BA12.out)
      have BYb13 := Hid.intro ((hg13.block Yb lYb12).trans BYb12.out)
      have BBb13 := Hid.intro ((hg13.block Bb lBb12).trans BBb12.out)
      have BUb13 := Hid.intro ((hg13.block Ub lUb12).trans BUb12.out)
      have BDb13 := Hid.intro ((hg13.block Db lDb12).trans BDb12.out)
      have BVb13 := Hid.intro ((hg13.block Vb lVb12).trans BVb12.out)
      have BCb13 := Hid.intro ((hg13.block Cb lCb12).trans BCb12.out)
      have HM13 := Hid.intro (HM12.out.below hg13)
      have HS13 := Hid.intro (HS12.out.below hg13)
      have HR13 := Hid.intro (HR12.out.below hg13)
      have HN13 := Hid.intro (HN12.out.below hg13)
      have HO13 := Hid.intro (HO12.out.below hg13)
      have HI13 := Hid.intro (HI12.out.below hg13)
      have HJ13 := Hid.intro (HJ12.out.below hg13)
      have HYo13 := Hid.intro (HYo12.out.below hg13)
      have HUo13 := Hid.intro (HUo12.out.below hg13)
      have HVo13 := Hid.intro (HVo12.out.below hg13)
      have hB13 := hB12.trans (hg13.mono hB12.size)
      have lS13 : S < w13.heap.size := by omega
      have lQ13 : Q < w13.heap.size := by omega
      have lP13 : P < w13.heap.size := by omega
      have lX13 : X < w13.heap.size := by omega
      have lA13 : A < w13.heap.size := by omega
      have lYb13 : Yb < w13.heap.size := by omega
      have lBb13 : Bb < w13.heap.size := by omega
      have lUb13 : Ub < w13.heap.size := by omega
      have lDb13 : Db < w13.heap.size := by omega
      have lVb13 : Vb < w13.heap.size := by omega
      have lCb13 : Cb < w13.heap.size := by omega
      clear BS12 lS12 BQ12 lQ12 BP12 lP12 BX12 lX12 BA12 lA12 BYb12 lYb12 BBb12 lBb12 BUb12 lUb12 BDb12 lDb12 BVb12 lVb12 BCb12 lCb12 HM12 HS12 HR12 HN12 HO12 HI12 HJ12 HYo12 HUo12 HVo12 hB12 hb13 hg13 hs13 cA0 cA1 cA2 cCb0 cCb1 cCb2
      have cBb0 : w13.cell? ⟨Bb, 0, none⟩ = some (.int .i64 yr.id) := heap_cell BBb13.out 0
      have cBb1 : w13.cell? ⟨Bb, 1, none⟩ = some (.int .i64 yr.code) := heap_cell BBb13.out 1
      have cBb2 : w13.cell? ⟨Bb, 2, none⟩ = some (.slice ex yr.data.length fx) := heap_cell BBb13.out 2
      have cDb0 : w13.cell? ⟨Db, 0, none⟩ = some (.int .i64 yr.id) := heap_cell BDb13.out 0
      have cDb1 : w13.cell? ⟨Db, 1, none⟩ = some (.int .i64 yr.code) := heap_cell BDb13.out 1
      have cDb2 : w13.cell? ⟨Db, 2, none⟩ = some (.slice gx yr.data.length ix) := heap_cell BDb13.out 2
      go_wp2_with fail
      refine (crRsp_same yr ex gx fx ix w13 HYo13.out.rsp HUo13.out.rsp).mono ?_
      rintro e w14 ⟨rfl, hb14⟩
      have hg14 := hb14
      have hs14 := hb14.size
      have BS14 := Hid.intro ((hg14.block S lS13).trans BS13.out)
      have BQ14 := Hid.intro ((hg14.block Q lQ13).trans BQ13.out)
      have BP14 := Hid.intro ((hg14.block P lP13).trans BP13.out)
      have BX14 := Hid.intro ((hg14.block X lX13).trans BX13.out)
      have BA14 := Hid.intro ((hg14.block A lA13).trans BA13.out)
      have BYb14 := Hid.intro ((hg14.block Yb lYb13).trans BYb13.out)
      have BBb14 := Hid.intro ((hg14.block Bb lBb13).trans BBb13.out)
      have BUb14 := Hid.intro ((hg14.block Ub lUb13).trans BUb13.out)
      have BDb14 := Hid.intro ((hg14.block Db lDb13).trans BDb13.out)
      have BVb14 := Hid.intro ((hg14.block Vb lVb13).trans BVb13.out)
      have BCb14 := Hid.intro ((hg14.block Cb lCb13).trans BCb13.out)
      have HM14 := Hid.intro (HM13.out.below hg14)
      have HS14 := Hid.intro (HS13.out.below hg14)
      have HR14 := Hid.intro (HR13.out.below hg14)
      have HN14 := Hid.intro (HN13.out.below hg14)
      have HO14 := Hid.intro (HO13.out.below hg14)
      have HI14 := Hid.intro (HI13.out.below hg14)
      have HJ14 := Hid.intro (HJ13.out.below hg14)
      have HYo14 := Hid.intro (HYo13.out.below hg14)
      have HUo14 := Hid.intro (HUo13.out.below hg14)
      have HVo14 := Hid.intro (HVo13.out.below hg14)
      have hB14 := hB13.trans (hg14.mono hB13.size)
      have lS14 : S < w14.heap.size := by omega
      have lQ14 : Q < w14.heap.size := by omega
      have lP14 : P < w14.heap.size := by omega
      have lX14 : X < w14.heap.size := by omega
      have lA14 : A < w14.heap.size := by omega
      have lYb14 : Yb < w14.heap.size := by omega
      have lBb14 : Bb < w14.heap.size := by omega
      have lUb14 : Ub < w14.heap.size := by omega
      have lDb14 : Db < w14.heap.size := by omega
      have lVb14 : Vb < w14.heap.size := by omega
      have lCb14 : Cb < w14.heap.size := by omega
      clear BS13 lS13 BQ13 lQ13 BP13 lP13 BX13 lX13 BA13 lA13 BYb13 lYb13 BBb13 lBb13 BUb13 lUb13 BDb13 lDb13 BVb13 lVb13 BCb13 lCb13 HM13 HS13 HR13 HN13 HO13 HI13 HJ13 HYo13 HUo13 HVo13 hB13 hb14 hg14 hs14 cBb0 cBb1 cBb2 cDb0 cDb1 cDb2
      go_wp2
      go_ret
      exact ⟨rfl, hB14⟩

end Go.Proofs.Ytcjlmdjiddadfaa

/-
  Proved: what is apart may be done in either order. At every two codes (rows of bytes of any length) the law answers true and leaves its arguments as they were. No condition.
-/
namespace Go.Proofs.Ytcjlmdjiddadfaa.fnAtmSwap
open Go.ChangeShapes Go.WideShapes Go.ChangeAt Go.RowKit
set_option linter.unusedVariables false
set_option linter.unusedSimpArgs false

set_option maxRecDepth 100000 in
theorem lifted (hI : AtmDoC) (os : Os) (started : os.Started) (H : Type) (enc : TypeId × Value → H) :
    ReturnsInHanded {} Try.checked os 8 .any (Rows.fnAtmSwapSpec.pre6 enc Try.prog Try.f8 Rows.fnAtmSwapRow.domain false) (Rows.fnAtmSwapSpec.post enc Try.prog Try.f8 false true false false) := by
  refine returnsInHanded_of_change (C := Try.checked) ownB started (by kernel_rfl) Try.func8
    (ChangeSpec.witness6 (enc := enc) (C := Try.checked) false ⟨#[], #[.slice none 0 0, .slice none 0 0], []⟩ 8 (by kernel_rfl) (by kernel_rfl) (by kernel_rfl) (by kernel_rfl)) ?_
  intro W base args ds gs before hval0 hW hcnd _
  have hval : ∀ (j : Nat) t v, Try.f8.params[j]? = some t → args[j]? = some v → Value.okWide Try.prog W .any base t v := hval0
  have hW' := hW
  obtain ⟨p, q, hA0, hV, rfl, hfz, hnd⟩ := hW
  have hA : DataW.TrodAll enc Try.prog W 0 (fun _ => true) true Try.f8.params.toList args.toList ds p := hA0
  rw [Try.params8] at hA hval
  obtain ⟨v0, vs0, d0, ds0, p0, q0, hargs, rfl, rfl, h0, r0⟩ := trodAll_cons hA
  obtain ⟨v1, vs1, d1, ds1, p1, q1, rfl, rfl, rfl, h1, r1⟩ := trodAll_cons r0
  obtain ⟨rfl, rfl, rfl⟩ := trodAll_nil r1
  obtain rfl : args = #[v0, v1] := by cases args; simp_all
  obtain ⟨rfl, rfl⟩ := trodVars_none hV
  obtain ⟨a0, len0, cap0, rfl⟩ := okWide_slice Try.underlying22 (hval 0 22 v0 rfl rfl)
  obtain ⟨a1, len1, cap1, rfl⟩ := okWide_slice Try.underlying22 (hval 1 22 v1 rfl rfl)
  have k0 := h0
  have lt0 : ∀ x ∈ p0, x.block < W.heap.size := by obtain ⟨m, hm⟩ := k0; exact DataW.trod_lt m _ _ _ hm
  have k1 := h1
  have lt1 : ∀ x ∈ p1, x.block < W.heap.size := by obtain ⟨m, hm⟩ := k1; exact DataW.trod_lt m _ _ _ hm
  obtain ⟨hx, hc, hm⟩ := open_bytes h0
  obtain ⟨hx', hc', hm'⟩ := open_bytes h1
  clear hA0 hval0
  refine (walkC_FnAtmSwap hI a0 len0 cap0 a1 len1 cap1 W hc hm hx hc' hm' hx').mono fun e W' ⟨he, bel⟩ => ?_
  subst he
  exact ⟨_, rfl, _, _, _, [], _, [], hW', trodAll_mk1 (shut_bool Try.underlying4 _), (trodAll_cons_mk (Below.trod laidOutC (by kernel_rfl) (of_decide_eq_true (by kernel_rfl)) k0 bel lt0) (trodAll_cons_mk (Below.trod laidOutC (by kernel_rfl) (of_decide_eq_true (by kernel_rfl)) k1 bel lt1) trodAll_mk0)), rfl, bel.frame _, fun h => by cases h⟩

theorem over (hI : AtmDoC) : Rows.fnAtmSwapRow.holds Try.pinned (OpenSpec.ofChange Rows.fnAtmSwapSpec) :=
  OpenClaim.holds_of_wide 8 Try.f8 rfl rfl rfl rfl rfl rfl rfl ⟨rfl, rfl, rfl, rfl, rfl⟩ rfl rfl rfl rfl rfl (by kernel_rfl) Try.func8 (by kernel_rfl)
    (of_decide_eq_true (by kernel_rfl)) (by unfold Func.isWrapper; first | (rw [if_pos (by decide +kernel)]; kernel_rfl) | (rw [if_neg (by decide +kernel)]; exact ⟨rfl, rfl⟩))
    (fun os started H enc _ => lifted hI os started H enc)

theorem proved_of (hI : AtmDoC) : Rows.FnAtmSwapSaid := over hI
end Go.Proofs.Ytcjlmdjiddadfaa.fnAtmSwap

namespace Go.Proofs.Ytcjlmdjiddadfaa.fnAtmSwap

theorem proved : Rows.FnAtmSwapSaid := proved_of impl_AtmDo
end Go.Proofs.Ytcjlmdjiddadfaa.fnAtmSwap
